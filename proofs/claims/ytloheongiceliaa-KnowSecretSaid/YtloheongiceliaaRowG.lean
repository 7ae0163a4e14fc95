/- A map keyed by terms that the program itself has made: what it holds, as a function. What lies in memory for a row of know: two maps, and rows of rows. Contract of (*row).makesAll: can all terms of a row be made? Contract of (*row).makesPower: can a power be made, of which some exponents cannot? -/
import Derived.Test.YtloheongiceliaaPartsOf
import Derived.Maps.OwnSet
import Derived.Maps.Range
import Derived.Test.YtloheongiceliaaKnowG
import Derived.Test.YtloheongiceliaaAmongG
import Derived.Test.YtloheongiceliaaPFnP
import Derived.Deep.RegionHeld3
section
namespace Go.Proofs.Ytloheongiceliaa
open Go.ChangeShapes Go.WideShapes Go.ChangeAt Go.RowKit
open Go.Maps (Keyed)

def heldElem (v : Value) : Option (DataW Value × List MemPlace) := some (.held v, [])
theorem keyed_term : Keyed Try.prog 24 := Maps.string_keyed Try.underlying24
theorem key_term {k : List UInt8} (hk : k.length ≤ 20000) : keyOf Try.prog 24 (.string ⟨k.toArray⟩) = some (.string k) := by
  have h := WideMaps.keyOf_string_mk (P := Try.prog) Try.underlying24 (s := ⟨k.toArray⟩) (by rw [size_list]; unfold maxLen; omega)
  simpa using h
theorem key_lit (k : List UInt8) : WideAt.IsKeyLit (.string k) := by simp [WideAt.IsKeyLit]

/-- What a map holds at a key. -/
def MapAt (W : World) (b n : Nat) (F : List UInt8 → Option Value) : Prop :=
  ∃ D : DataW Value, W.ownsMap Try.prog 24 heldElem b n D ∧ ∀ k z, D.atKey (.string k) z = match F k with | some v => .held v | none => z

def setAt (F : List UInt8 → Option Value) (k : List UInt8) (v : Value) : List UInt8 → Option Value := fun x => if x = k then some v else F x
theorem setAt_same (F : List UInt8 → Option Value) (k : List UInt8) (v : Value) : setAt F k v k = some v := by simp [setAt]
theorem setAt_other (F : List UInt8 → Option Value) {k x : List UInt8} (v : Value) (h : x ≠ k) : setAt F k v x = F x := by simp [setAt, h]

theorem MapAt.made (W : World) : MapAt (W.alloc (.map #[] 0)) W.heap.size 0 (fun _ => none) :=
  ⟨.map [], World.ownsMap_made W _ _ _, fun k z => by simp [DataW.atKey]⟩
theorem MapAt.kept {W W' : World} {b n : Nat} {F : List UInt8 → Option Value} {row : Option Nat} (h : MapAt W b n F) (hg : W.grownBy W' row) (hne : some b ≠ row) : MapAt W' b n F := by
  obtain ⟨D, h1, h2⟩ := h
  exact ⟨D, h1.kept hg hne, h2⟩
theorem MapAt.lt {W : World} {b n : Nat} {F : List UInt8 → Option Value} (h : MapAt W b n F) : b < W.heap.size := by
  obtain ⟨D, h1, h2⟩ := h
  exact h1.lt
theorem MapAt.block {W : World} {b n : Nat} {F : List UInt8 → Option Value} (h : MapAt W b n F) : ∃ es clock, W.heap[b]? = some (.map es clock) := by
  obtain ⟨D, ⟨es, clock, h1, _⟩, _⟩ := h
  exact ⟨es, clock, h1⟩
theorem MapAt.look {W : World} {b n : Nat} {F : List UInt8 → Option Value} (h : MapAt W b n F) {t e : TypeId} {z : Value} (ht : Try.prog.underlying t = some (.map 24 e)) (hz : (zeroValue e).run Try.prog W = .ok z W) {k : List UInt8} (hk : k.length ≤ 20000) :
    (Instr.lookup t (.map (some b)) (.string ⟨k.toArray⟩) false).run Try.prog W = .ok ((F k).getD z) W := by
  obtain ⟨D, h1, h2⟩ := h
  obtain ⟨v, ps, hrun, hv⟩ := h1.lookup keyed_term ht hz (zd := .held z) (zp := []) rfl (key_term hk)
  rw [hrun]
  have h3 := h2 k (.held z)
  simp only [heldElem, Option.some.injEq, Prod.mk.injEq] at hv
  rw [h3] at hv
  cases hF : F k with
  | none => rw [hF] at hv; simp at hv; rw [hv.1]; rfl
  | some u => rw [hF] at hv; simp at hv; rw [hv.1]; rfl
theorem MapAt.set {W : World} {b n : Nat} {F : List UInt8 → Option Value} (h : MapAt W b n F) {t e : TypeId} (ht : Try.prog.underlying t = some (.map 24 e)) (hn : n < maxLen) {k : List UInt8} (hk : k.length ≤ 20000) (v : Value) :
    ∃ W', (Instr.mapUpdate t (.map (some b)) (.string ⟨k.toArray⟩) v).run Try.prog W = .ok () W' ∧ MapAt W' b (n + 1) (setAt F k v) ∧ W.grownBy W' (some b) := by
  obtain ⟨D, h1, h2⟩ := h
  obtain ⟨W', hrun, h3, h4⟩ := h1.update keyed_term ht hn (key_term hk) (d := .held v) (ps := []) rfl
  refine ⟨W', hrun, ⟨_, h3, fun x z => ?_⟩, h4⟩
  by_cases hx : x = k
  · subst hx
    rw [Maps.atKey_put_same h1.isMap (key_lit x), setAt_same]
  · rw [Maps.atKey_put_other (by simpa using hx), h2 x z, setAt_other _ _ hx]

theorem zero_standing (W : World) : (zeroValue 146).run Try.prog W = .ok (.int .i64 0) W := by kernel_rfl
theorem zero_powers (W : World) : (zeroValue 147).run Try.prog W = .ok (.slice none 0 0) W := by kernel_rfl
theorem zero_locks (W : World) : (zeroValue 119).run Try.prog W = .ok (.slice none 0 0) W := by kernel_rfl
theorem zero_lock (W : World) : (zeroValue 153).run Try.prog W = .ok (.pointer none) W := by kernel_rfl

end Go.Proofs.Ytloheongiceliaa
end

section
namespace Go.Proofs.Ytloheongiceliaa
open Go.ChangeShapes Go.WideShapes Go.ChangeAt Go.RowKit

theorem MapAt.same {W W' : World} {b n : Nat} {F : List UInt8 → Option Value} (h : MapAt W b n F) (hs : W'.heap[b]? = W.heap[b]?) : MapAt W' b n F := by
  obtain ⟨D, ⟨es, clock, h1, h2⟩, h3⟩ := h
  exact ⟨D, ⟨es, clock, hs.trans h1, h2⟩, h3⟩
theorem row_same {W W' : World} {B : Nat} {e : TypeId} {size n : Nat} {v : Value} {xs : List Value} (h : W.ownsRow B e size v n xs) (hs : ∀ g, v.ownBlock = some g → W'.heap[g]? = W.heap[g]?) : W'.ownsRow B e size v n xs := by
  refine ⟨h.1, ?_⟩
  rcases h.2 with hn | ⟨g, cap, cur, rfl, h1, h2, h3⟩
  · exact .inl hn
  · exact .inr ⟨g, cap, cur, rfl, h1, (hs g rfl).trans h2, h3⟩
theorem row_cells {W : World} {B : Nat} {e : TypeId} {size n : Nat} {v : Value} {xs : List Value} (h : W.ownsRow B e size v n xs) {g : Nat} (hg : v.ownBlock = some g) : ∃ cur, W.heap[g]? = some (.cells cur e (0, 0)) := by
  rcases h.2 with ⟨rfl, _⟩ | ⟨g', cap, cur, rfl, h1, h2, h3⟩
  · cases hg
  · cases hg
    exact ⟨cur, h2⟩
/-- A row stays while a map is written. -/
theorem row_map {W W' : World} {B sm : Nat} {e : TypeId} {size n : Nat} {v : Value} {xs : List Value} (h : W.ownsRow B e size v n xs) (hg : W.grownBy W' (some sm)) (hm : ∃ es clock, W.heap[sm]? = some (.map es clock)) : W'.ownsRow B e size v n xs := by
  refine row_same h (fun g e1 => ?_)
  obtain ⟨cur, hc⟩ := row_cells h e1
  refine hg.block g (Array.getElem?_eq_some_iff.1 hc).1 (fun e2 => ?_)
  cases e2
  obtain ⟨es, clock, hm⟩ := hm
  rw [hm] at hc
  cases hc

/-- A row of rows of texts; its blocks bear the mark. -/
def Rows2 (W : World) (T : Nat → Nat) (v : Value) (L : List (List (List UInt8))) : Prop :=
  (∀ g, v.ownBlock = some g → T g = 1) ∧
  ∃ vals : List Value, W.ownsRow 0 38 1 v L.length vals ∧ ∀ (i : Nat) (l : List (List UInt8)), L[i]? = some l → ∃ u, vals[i]? = some u ∧ W.ownsRow 0 24 1 u l.length (strs l) ∧ ∀ g, u.ownBlock = some g → T g = 1
def StandI (W : World) (sm n : Nat) (K : List UInt8 → Prop) : Prop :=
  ∃ F, MapAt W sm n F ∧ ∀ k, (F k = none ∧ ¬ K k) ∨ (F k = some (.int .i64 1) ∧ ¬ K k ∧ Tm.Mk K k) ∨ (F k = some (.int .i64 2) ∧ K k)
def slot0 (G : List UInt8 → Option Value) (x : List UInt8) : Value := (G x).getD (.slice none 0 0)
def PowI (W : World) (T : Nat → Nat) (pm N : Nat) (K : List UInt8 → Prop) : Prop :=
  ∃ (G : List UInt8 → Option Value) (Pw : List UInt8 → List (List (List UInt8))), MapAt W pm (40 * N) G ∧ (∀ x, Rows2 W T (slot0 G x) (Pw x)) ∧
    (∀ x y g, (slot0 G x).ownBlock = some g → (slot0 G y).ownBlock = some g → x = y) ∧ (∀ x, (Pw x).length ≤ N) ∧
    (∀ x, ∀ l ∈ Pw x, ∃ b, K b ∧ b.getD 0 0 = 101 ∧ Tm.ofL b = l) ∧ (∀ x b, K b → b.getD 0 0 = 101 → x ∈ Tm.ofL b → Tm.ofL b ∈ Pw x)
/-- A row of know at block r: its maps at sm and pm, all its blocks marked by T; K: what is known. -/
structure RowI (W : World) (T : Nat → Nat) (r sm pm n N : Nat) (K : List UInt8 → Prop) : Prop where
  block : W.heap[r]? = some (.cells #[.map (some sm), .map (some pm)] 145 (0, 0))
  tags : T r = 1 ∧ T sm = 1 ∧ T pm = 1
  ne : sm ≠ pm
  stand : StandI W sm n K
  pow : PowI W T pm N K
  right : ∀ t, K t → Tm.right t = true
  fresh : ∀ k, W.heap.size ≤ k → T k ≠ 1

theorem Rows2.keep {W W' : World} {T : Nat → Nat} {v : Value} {L : List (List (List UInt8))} (h : Rows2 W T v L) (hs : ∀ k, T k = 1 → k < W.heap.size → (∃ cur e, W.heap[k]? = some (.cells cur e (0, 0))) → W'.heap[k]? = W.heap[k]?) : Rows2 W' T v L := by
  obtain ⟨h0, vals, h1, h2⟩ := h
  refine ⟨h0, vals, row_same h1 (fun g e1 => ?_), fun i l hi => ?_⟩
  · obtain ⟨cur, hc⟩ := row_cells h1 e1
    exact hs g (h0 g e1) (Array.getElem?_eq_some_iff.1 hc).1 ⟨_, _, hc⟩
  · obtain ⟨u, h3, h4, h5⟩ := h2 i l hi
    refine ⟨u, h3, row_same h4 (fun g e1 => ?_), h5⟩
    obtain ⟨cur, hc⟩ := row_cells h4 e1
    exact hs g (h5 g e1) (Array.getElem?_eq_some_iff.1 hc).1 ⟨_, _, hc⟩
theorem PowI.keep {W W' : World} {T : Nat → Nat} {pm N : Nat} {K : List UInt8 → Prop} (h : PowI W T pm N K) (hp : W'.heap[pm]? = W.heap[pm]?) (hs : ∀ k, T k = 1 → k < W.heap.size → (∃ cur e, W.heap[k]? = some (.cells cur e (0, 0))) → W'.heap[k]? = W.heap[k]?) : PowI W' T pm N K := by
  obtain ⟨G, Pw, h1, h2, h3⟩ := h
  exact ⟨G, Pw, h1.same hp, fun x => (h2 x).keep hs, h3⟩
theorem RowI.lt {W : World} {T : Nat → Nat} {r sm pm n N : Nat} {K : List UInt8 → Prop} (h : RowI W T r sm pm n N K) : r < W.heap.size ∧ sm < W.heap.size ∧ pm < W.heap.size := by
  obtain ⟨F, hF, _⟩ := h.stand
  obtain ⟨G, Pw, hG, _⟩ := h.pow
  exact ⟨(Array.getElem?_eq_some_iff.1 h.block).1, hF.lt, hG.lt⟩
theorem RowI.keep {W W' : World} {T : Nat → Nat} {r sm pm n N : Nat} {K : List UInt8 → Prop} (h : RowI W T r sm pm n N K) (hsz : W.heap.size ≤ W'.heap.size) (hs : ∀ k, T k = 1 → k < W.heap.size → W'.heap[k]? = W.heap[k]?) : RowI W' T r sm pm n N K := by
  obtain ⟨l1, l2, l3⟩ := h.lt
  obtain ⟨F, hF, hF2⟩ := h.stand
  exact ⟨(hs r h.tags.1 l1).trans h.block, h.tags, h.ne, ⟨F, hF.same (hs sm h.tags.2.1 l2), hF2⟩, h.pow.keep (hs pm h.tags.2.2 l3) (fun k h1 h2 _ => hs k h1 h2), h.right, fun k hk => h.fresh k (Nat.le_trans hsz hk)⟩
theorem RowI.below {W W' : World} {T : Nat → Nat} {r sm pm n N : Nat} {K : List UInt8 → Prop} (h : RowI W T r sm pm n N K) (hb : Below W.heap.size W W') : RowI W' T r sm pm n N K := h.keep hb.size (fun k _ hk => hb.block k hk)
theorem RowI.more {W : World} {T : Nat → Nat} {r sm pm n n' N : Nat} {K : List UInt8 → Prop} (h : RowI W T r sm pm n N K) (hn : n ≤ n') : RowI W T r sm pm n' N K := by
  obtain ⟨F, ⟨D, h1, h2⟩, hF2⟩ := h.stand
  exact ⟨h.block, h.tags, h.ne, ⟨F, ⟨D, h1.mono hn, h2⟩, hF2⟩, h.pow, h.right, h.fresh⟩
theorem RowI.map {W : World} {T : Nat → Nat} {r sm pm n N : Nat} {K : List UInt8 → Prop} (h : RowI W T r sm pm n N K) : ∃ es clock, W.heap[sm]? = some (.map es clock) := by
  obtain ⟨F, hF, _⟩ := h.stand
  exact hF.block
/-- A row of another's own is appended to. -/
theorem RowI.beside {W W' : World} {T : Nat → Nat} {r sm pm n N : Nat} {K : List UInt8 → Prop} (h : RowI W T r sm pm n N K) {row : Option Nat} (hg : W.grownBy W' row) (hr : ∀ g, row = some g → T g ≠ 1) : RowI W' T r sm pm n N K :=
  h.keep hg.size (fun k hk hl => hg.block k hl (fun e => hr k e.symm hk))
/-- The world is the same but for new blocks. -/
theorem grown_none {W W' : World} (hb : Below W.heap.size W W') (row : Option Nat) : W.grownBy W' row := ⟨hb.os, hb.tape, hb.output, hb.size, fun i hi _ => hb.block i hi⟩

/-- The two cells of a row. -/
theorem RowI.cells {W : World} {T : Nat → Nat} {r sm pm n N : Nat} {K : List UInt8 → Prop} (h : RowI W T r sm pm n N K) : W.cell? ⟨r, 0, none⟩ = some (.map (some sm)) ∧ W.cell? ⟨r, 1, none⟩ = some (.map (some pm)) := by
  have := h.block
  constructor <;> simp [World.cell?, this]

end Go.Proofs.Ytloheongiceliaa
end

section
namespace Go.Proofs.Ytloheongiceliaa
open Go.ChangeShapes Go.WideShapes Go.ChangeAt Go.RowKit

theorem reads_terms {w : World} {B : Nat} {v : Value} {xs : List (List UInt8)} (h : w.ownsRow B 24 1 v xs.length (strs xs)) : Reads w v xs := by
  by_cases hne : xs = []
  · subst hne
    rcases h.2 with ⟨rfl, _⟩ | ⟨g, cap, cur, rfl, _⟩
    · exact ⟨none, 0, rfl, by simp⟩
    · exact ⟨_, cap, rfl, by simp⟩
  · obtain ⟨g, cap, rfl, hT, hg⟩ := row_slice h hne
    exact ⟨_, cap, rfl, fun j x hx => ⟨g, rfl, hg, hT j x hx⟩⟩
theorem part_terms {w : World} {B : Nat} {v : Value} {xs : List (List UInt8)} (h : w.ownsRow B 24 1 v xs.length (strs xs)) : PartOf w v xs := by
  by_cases hne : xs = []
  · subst hne
    rcases h.2 with ⟨rfl, _⟩ | ⟨g, cap, cur, rfl, _, _, hc, _⟩
    · exact ⟨none, 0, rfl, by simp, by simp⟩
    · exact ⟨_, cap, rfl, hc, by simp⟩
  · rcases h.2 with ⟨_, h0⟩ | ⟨g, cap, cur, rfl, _, _, hc, _⟩
    · exact absurd (List.length_eq_zero_iff.1 h0) hne
    · exact ⟨_, cap, rfl, hc, fun j x hx => ⟨g, 0, rfl, by rw [Nat.zero_add]; exact texts_of_row h j x hx⟩⟩
theorem grown_trans {a w w' : World} {row : Option Nat} (h : a.grownBy w row) (k : w.grownBy w' row) : a.grownBy w' row :=
  ⟨k.os.trans h.os, k.tape.trans h.tape, k.output.trans h.output, Nat.le_trans h.size k.size, fun i hi hr => (k.block i (Nat.lt_of_lt_of_le hi h.size) hr).trans (h.block i hi hr)⟩
/-- What is written besides is new. -/
theorem grown_far {a w w' : World} {row row' : Option Nat} (h : a.grownBy w row) (k : w.grownBy w' row') (hr : ∀ g, row' = some g → a.heap.size ≤ g) : a.grownBy w' row :=
  ⟨k.os.trans h.os, k.tape.trans h.tape, k.output.trans h.output, Nat.le_trans h.size k.size, fun i hi hne => (k.block i (Nat.lt_of_lt_of_le hi h.size) (fun e => by have := hr i e.symm; omega)).trans (h.block i hi hne)⟩
theorem grown_refl (w : World) (row : Option Nat) : w.grownBy w row := ⟨rfl, rfl, rfl, Nat.le_refl _, fun _ _ _ => rfl⟩

def roomK : Nat := 1000000000000000
def MakesOut (W : World) (T : Nat → Nat) (r sm pm n N : Nat) (K : List UInt8 → Prop) (t : List UInt8) (e : Ending) (W' : World) : Prop :=
  ∃ b : Bool, e = .returned (.bool b) ∧ (b = true ↔ Tm.Mk K t) ∧ RowI W' T r sm pm (n + t.length) N K ∧ W.grownBy W' (some sm)
def CanMake (T : Nat → Nat) (r sm pm N : Nat) (K : List UInt8 → Prop) (t : List UInt8) : Prop :=
  ∀ W n, RowI W T r sm pm n N K → n + t.length ≤ roomK → Calls Try.prog 73 #[.pointer (some ⟨r, 0, none⟩), .string ⟨t.toArray⟩] W (MakesOut W T r sm pm n N K t)
def AllMade (W : World) (T : Nat → Nat) (r sm pm n N : Nat) (K : List UInt8 → Prop) (ps : List (List UInt8)) (e : Ending) (W' : World) : Prop :=
  ∃ b : Bool, e = .returned (.bool b) ∧ (b = true ↔ ∀ p ∈ ps, Tm.Mk K p) ∧ RowI W' T r sm pm (n + ps.flatten.length) N K ∧ W.grownBy W' (some sm)
def MakingAll (W : World) (T : Nat → Nat) (r sm pm n N : Nat) (K : List UInt8 → Prop) (ps : List (List UInt8)) (k : Nat) (v9 : Value) (wr : World) : Prop :=
  ∃ i : Nat, k + i = ps.length ∧ v9 = .int .i64 i ∧ (∀ p ∈ ps.take i, Tm.Mk K p) ∧ RowI wr T r sm pm (n + (ps.take i).flatten.length) N K ∧ W.grownBy wr (some sm)

theorem take_flat (ps : List (List UInt8)) (i : Nat) : (ps.take i).flatten.length ≤ ps.flatten.length := by
  have h := congrArg List.flatten (List.take_append_drop i ps)
  rw [List.flatten_append] at h
  rw [← h, List.length_append]
  omega
theorem take_flat_succ {ps : List (List UInt8)} {i : Nat} {p : List UInt8} (hp : ps[i]? = some p) : (ps.take (i + 1)).flatten.length = (ps.take i).flatten.length + p.length := by
  have := List.take_add_one (l := ps) (i := i)
  rw [hp] at this
  rw [this, List.flatten_append, List.length_append]
  simp

set_option maxRecDepth 100000 in
set_option maxHeartbeats 2000000 in
theorem makesAll_calls (ps : List (List UInt8)) {T : Nat → Nat} {r sm pm N : Nat} {K : List UInt8 → Prop} (hps : ∀ p ∈ ps, CanMake T r sm pm N K p) (v : Value) (W : World) (B n : Nat) (hrow : W.ownsRow B 24 1 v ps.length (strs ps))
    (hI : RowI W T r sm pm n N K) (hn : n + ps.flatten.length ≤ roomK) (hlen : ps.length ≤ 32) :
    Calls Try.prog 94 #[.pointer (some ⟨r, 0, none⟩), v] W (AllMade W T r sm pm n N K ps) := by
  have HP := Lib.hid hps
  have HRow := Lib.hid hrow
  have HI := Lib.hid hI
  obtain ⟨A, c, rfl, _⟩ := reads_terms hrow
  have HN := Lib.hid hn
  clear hps hrow hI hn
  go_enter Try.func94, Try.ntmps94
  go_wp2
  go_loopg [9] ps.length (fun k v9 wr => MakingAll W T r sm pm n N K ps k v9 wr)
  case atStart => exact ⟨0, by omega, rfl, by simp, by simpa using HI.out, grown_refl _ _⟩
  case round =>
    obtain ⟨i, hk, rfl, hall, hI2, hg⟩ := hrel
    have HAll := Lib.hid hall
    have HI2 := Lib.hid hI2
    have HG := Lib.hid hg
    have HK := Lib.hid hk
    have hrow2 := row_map HRow.out hg HI.out.map
    obtain ⟨A2, c2, e2, hcells⟩ := reads_terms hrow2
    cases e2
    by_cases hi : i < ps.length
    · obtain ⟨p, hp⟩ : ∃ p, ps[i]? = some p := ⟨_, List.getElem?_eq_getElem hi⟩
      obtain ⟨g, rfl, _, hcell⟩ := hcells i p hp
      have hfl := take_flat_succ hp
      have hfl2 := take_flat ps (i + 1)
      have HC := Lib.hid (HP.out p (List.mem_of_getElem? hp) wr _ hI2 (by have := HN.out; omega))
      have HFl := Lib.hid hfl
      have HP2 := Lib.hid hp
      have j1 : (i : Int) < (ps.length : Int) := by omega
      have j2 : (0 : Int) ≤ (i : Int) := by omega
      clear hall hI2 hg hk hrow2 hcells hp hfl
      go_wp2_with fail
      refine HC.out.mono ?_
      rintro e' w1 ⟨b, rfl, hb, hI3, hg3⟩
      cases b with
      | false =>
        have hno : Hid (¬ ∀ p ∈ ps, Tm.Mk K p) := fun h => by
          have := hb.2 (h p (List.mem_of_getElem? HP2.out))
          cases this
        have hI4 : Hid (RowI w1 T r sm pm (n + ps.flatten.length) N K) := hI3.more (by have := HFl.out; omega)
        have hg4 := Lib.hid (grown_trans HG.out hg3)
        clear hb hI3 hg3
        go_wp2
        go_ret
        exact ⟨false, rfl, by simp [hno.out], hI4.out, hg4.out⟩
      | true =>
        have hmk := Lib.hid (hb.1 rfl)
        have hI4 := Lib.hid hI3
        have hg4 := Lib.hid (grown_trans HG.out hg3)
        clear hb hI3 hg3
        go_wp2
        go_roundg (gk - 1)
        case measure => have := HK.out; omega
        case rel =>
          refine ⟨i + 1, by have := HK.out; omega, rfl, ?_, ?_, hg4.out⟩
          · intro q hq
            have := List.take_add_one (l := ps) (i := i)
            rw [HP2.out] at this
            rw [this] at hq
            rcases List.mem_append.1 hq with hq | hq
            · exact HAll.out q hq
            · simp at hq
              rw [hq]
              exact hmk.out
          · rw [HFl.out, ← Nat.add_assoc]
            exact hI4.out
    · obtain rfl : i = ps.length := by omega
      have j1 : ¬ ((ps.length : Int) < (ps.length : Int)) := by omega
      have hyes : Hid (∀ p ∈ ps, Tm.Mk K p) := by
        intro p hp
        have := HAll.out
        rw [List.take_length] at this
        exact this p hp
      clear hall hI2 hg hk hrow2 hcells
      go_wp2
      go_ret
      refine ⟨true, rfl, by simp; exact hyes.out, ?_, HG.out⟩
      have := HI2.out
      rw [List.take_length] at this
      exact this

end Go.Proofs.Ytloheongiceliaa
end

section
namespace Go.Proofs.Ytloheongiceliaa
open Go.ChangeShapes Go.WideShapes Go.ChangeAt Go.RowKit

def PowMade (W : World) (T : Nat → Nat) (r sm pm n N : Nat) (K : List UInt8 → Prop) (t : List UInt8) (e : Ending) (W' : World) : Prop :=
  ∃ b : Bool, e = .returned (.bool b) ∧ (b = true ↔ Tm.Mk K t) ∧ RowI W' T r sm pm (n + (Tm.ofL t).flatten.length) N K ∧ W.grownBy W' (some sm)
def Lacking (W : World) (T : Nat → Nat) (r sm pm n N : Nat) (K : List UInt8 → Prop) (es : List (List UInt8)) (k : Nat) (v5 v12 : Value) (wr : World) : Prop :=
  ∃ i : Nat, k + i = es.length ∧ v12 = .int .i64 i ∧ wr.ownsRow W.heap.size 24 1 v5 (Tm.lackL K (es.take i)).length (strs (Tm.lackL K (es.take i))) ∧ RowI wr T r sm pm (n + (es.take i).flatten.length) N K ∧ W.grownBy wr (some sm)
def Trying (lk es : List (List UInt8)) (L : List (List (List UInt8))) (w : World) (k : Nat) (v37 : Value) (wr : World) : Prop :=
  ∃ j : Nat, k + j = L.length ∧ v37 = .int .i64 j ∧ (∀ l ∈ L.take j, ¬ (lk.Sublist l ∧ l.Sublist es)) ∧ wr = w

theorem lack_snoc (K : List UInt8 → Prop) {es : List (List UInt8)} {i : Nat} {p : List UInt8} (hp : es[i]? = some p) : Tm.lackL K (es.take (i + 1)) = Tm.lackL K (es.take i) ++ (if Tm.mkB K p then [] else [p]) := by
  have := List.take_add_one (l := es) (i := i)
  rw [hp] at this
  rw [this]
  unfold Tm.lackL
  rw [List.filter_append]
  congr 1
  cases h : Tm.mkB K p <;> simp [h]
theorem lack_le (K : List UInt8 → Prop) (es : List (List UInt8)) : (Tm.lackL K es).length ≤ es.length := List.length_filter_le _ _

set_option maxRecDepth 100000 in
set_option maxHeartbeats 4000000 in
theorem makesPower_calls (t : List UInt8) (hr : Tm.right t = true) (hk : t.getD 0 0 = 101) {T : Nat → Nat} {r sm pm N : Nat} {K : List UInt8 → Prop} (hnK : ¬ K t) (hps : ∀ p ∈ Tm.ofL t, CanMake T r sm pm N K p) (v : Value) (W : World) (B n : Nat)
    (hrow : W.ownsRow B 24 1 v (Tm.ofL t).length (strs (Tm.ofL t))) (hI : RowI W T r sm pm n N K) (hn : n + (Tm.ofL t).flatten.length ≤ roomK) (hN : N ≤ 1000000000) :
    Calls Try.prog 93 #[.pointer (some ⟨r, 0, none⟩), v] W (PowMade W T r sm pm n N K t) := by
  obtain ⟨i0, hi, hz0, hz1, hz2⟩ := info_parts info_term
  have HPw := Lib.hid (fun Pw h1 h2 => Tm.mk_power hI.right hr hk hnK Pw h1 h2)
  have HSt := Lib.hid (Tm.ofL_sorted hr hk)
  have HShort : Hid (∀ x ∈ Tm.ofL t, x.length ≤ 20000) := fun x hx => by have := (Tm.ofL_ok hr).2.1 x hx; have := (Tm.ofL_ok hr).2.2.2.2.2; omega
  have HLen : (Tm.ofL t).length ≤ 32 := by rw [(Tm.ofL_ok hr).2.2.1]; exact (Tm.begin_le _).2
  have HRt := Lib.hid hI.right
  have HSb : Hid (∀ b, K b → b.getD 0 0 = 101 → (Tm.ofL b).length ≤ 32 ∧ (Tm.ofL b).Pairwise Tm.leq) := fun b h1 h2 =>
    ⟨by rw [(Tm.ofL_ok (hI.right b h1)).2.2.1]; exact (Tm.begin_le _).2, Tm.ofL_sorted (hI.right b h1) h2⟩
  unfold PowMade
  generalize hT : (Tm.Mk K t) = goalP at *
  generalize Tm.ofL t = es at *
  have HP := Lib.hid hps
  have HRow := Lib.hid hrow
  have HI := Lib.hid hI
  obtain ⟨A, c, rfl, _⟩ := reads_terms hrow
  have HN := Lib.hid hn
  clear hps hrow hI hn hr hk hnK hT
  obtain ⟨Q, hQ⟩ : ∃ Q, Q = (fun (e : Ending) (W' : World) => ∃ b : Bool, e = .returned (.bool b) ∧ (b = true ↔ goalP) ∧ RowI W' T r sm pm (n + es.flatten.length) N K ∧ W.grownBy W' (some sm)) := ⟨_, rfl⟩
  rw [← hQ]
  have HQ : ∀ (b : Bool) (W' : World), (b = true ↔ goalP) → RowI W' T r sm pm (n + es.flatten.length) N K → W.grownBy W' (some sm) → Q (.returned (.bool b)) W' := by
    intro b W' h1 h2 h3
    rw [hQ]
    exact ⟨b, rfl, h1, h2, h3⟩
  have HHQ := Lib.hid HQ
  clear hQ HQ
  go_enter Try.func93, Try.ntmps93
  go_wp2
  go_loopg [5, 12] es.length (fun k v5 v12 wr => Lacking W T r sm pm n N K es k v5 v12 wr)
  case atStart => exact ⟨0, by omega, rfl, by simpa [Tm.lackL, strs] using World.ownsRow_nil _ _ _ _, by simpa using HI.out, grown_refl _ _⟩
  case round =>
    obtain ⟨i, hk, rfl, hlk, hI2, hg⟩ := hrel
    have HI2 := Lib.hid hI2
    have HG := Lib.hid hg
    have HK := Lib.hid hk
    have HLk := Lib.hid hlk
    have hrow2 := row_map HRow.out hg HI.out.map
    obtain ⟨A2, c2, e2, hcells⟩ := reads_terms hrow2
    cases e2
    have hle := lack_le K (es.take i)
    rw [List.length_take] at hle
    by_cases hil : i < es.length
    · obtain ⟨p, hp⟩ : ∃ p, es[i]? = some p := ⟨_, List.getElem?_eq_getElem hil⟩
      obtain ⟨g, rfl, _, hcell⟩ := hcells i p hp
      have hfl := take_flat_succ hp
      have hfl2 := take_flat es (i + 1)
      have HC := Lib.hid (HP.out p (List.mem_of_getElem? hp) wr _ hI2 (by have := HN.out; omega))
      have HFl := Lib.hid hfl
      have HSn := Lib.hid (lack_snoc K hp)
      have j1 : (i : Int) < (es.length : Int) := by omega
      have j2 : (0 : Int) ≤ (i : Int) := by omega
      have hwsz := hg.size
      clear hI2 hg hk hrow2 hcells hp hfl hlk
      go_wp2_with fail
      refine HC.out.mono ?_
      rintro e' w1 ⟨b, rfl, hb, hI3, hg3⟩
      have hlk3 := row_map HLk.out hg3 HI2.out.map
      have hg4 := Lib.hid (grown_trans HG.out hg3)
      have hI4 := Lib.hid hI3
      cases b with
      | true =>
        have hB : Hid (Tm.mkB K p = true) := Tm.mkB_iff.2 (hb.1 rfl)
        have hlk4 := Lib.hid hlk3
        clear hb hI3 hg3 hlk3
        go_wp2
        go_roundg (gk - 1)
        case measure => have := HK.out; omega
        case rel =>
          refine ⟨i + 1, by have := HK.out; omega, rfl, ?_, ?_, hg4.out⟩
          · rw [HSn.out, hB.out]
            simpa using hlk4.out
          · rw [HFl.out, ← Nat.add_assoc]
            exact hI4.out
      | false =>
        have hB : Hid (Tm.mkB K p = false) := by
          show _ = _
          cases h : Tm.mkB K p with
          | false => rfl
          | true => have := hb.2 (Tm.mkB_iff.1 h); cases this
        have hw1 := hg3.size
        clear hb hI3 hg3
        generalize Tm.lackL K (es.take i) = lk at *
        go_wp2_with (at_builtin; refine wpList_append_own _ rfl _ _ 38 rfl W.heap.size 24 i0 (.string ⟨#[]⟩) 1 16 Try.underlying38 hi hz0 hz1 hz2 rfl (by decide) _ _ _ rfl (hlk3.alloc _) ⟨w1.heap.size, 0, none⟩ 1 1 [.string ⟨p.toArray⟩] rfl rfl (cell_one_new _ _ _) (by simp [Value.oneCell']) (by unfold maxLen; omega) (by omega) (by simp; omega) ?_; intro v2 w2 hown' hgrow _)
        go_roundg (gk - 1)
        case measure => have := HK.out; omega
        case rel =>
          have hga : w1.grownBy w2 u5.ownBlock := grown_trans (World.grownBy_alloc w1 _ u5.ownBlock) hgrow
          have hlow : ∀ g, u5.ownBlock = some g → W.heap.size ≤ g := fun g e1 => (hlk3.lt g e1).1
          refine ⟨i + 1, by have := HK.out; omega, rfl, ?_, ?_, ?_⟩
          · rw [HSn.out, hB.out]
            simpa [strs] using hown'
          · rw [HFl.out, ← Nat.add_assoc]
            exact hI4.out.beside hga (fun g e1 => HI.out.fresh g (hlow g e1))
          · exact grown_far hg4.out hga (fun g e1 => hlow g e1)
    · obtain rfl : i = es.length := by omega
      have j1 : ¬ ((es.length : Int) < (es.length : Int)) := by omega
      rw [List.take_length] at hlk hI2 hle
      obtain ⟨G, Pw, hG, hR2, hsep, hPN, hP1, hP2⟩ := hI2.pow
      have HM := Lib.hid (HPw.out Pw hP1 hP2)
      have HI3 := Lib.hid hI2
      have HLk3 := Lib.hid hlk
      obtain ⟨A5, c5, e5, hc5⟩ := reads_terms hlk
      subst e5
      have HP1 := Lib.hid hP1
      cases hlk0 : Tm.lackL K es with
      | nil =>
        have hyes : Hid goalP := HM.out.2 (.inl hlk0)
        clear hI2 hg hk hrow2 hcells hlk hG hR2 hsep hPN hP1 hP2 HM HI2 HLk HLk3 hc5 HP1
        go_wp2
        exact HHQ.out true wr (by simp [hyes.out]) HI3.out HG.out
      | cons l0 lrest =>
        obtain ⟨g5, rfl, hg5, hcl0⟩ := hc5 0 l0 (by rw [hlk0]; rfl)
        obtain ⟨htag, vals, hvals, hin⟩ := hR2 l0
        have hl0 : l0.length ≤ 20000 := by
          have hm : l0 ∈ es := (List.mem_filter.1 (show l0 ∈ Tm.lackL K es by rw [hlk0]; simp)).1
          exact HShort.out l0 hm
        have hlook : ∀ q, (Instr.lookup 143 (.map (some pm)) (.string ⟨l0.toArray⟩) false).run Try.prog (wr.drewN q) = .ok ((G l0).getD (.slice none 0 0)) (wr.drewN q) := fun q =>
          (hG.same (W' := wr.drewN q) rfl).look Try.underlying143 (zero_powers _) hl0
        have hslot : (G l0).getD (.slice none 0 0) = slot0 G l0 := rfl
        rw [hslot] at hlook
        obtain ⟨A7, c7, e7, hc7⟩ : ∃ A7 c7, slot0 G l0 = .slice A7 (Pw l0).length c7 ∧ ∀ (j : Nat) (l : List (List UInt8)), (Pw l0)[j]? = some l → ∃ g7 u, A7 = some ⟨g7, 0, none⟩ ∧ wr.cell? ⟨g7, j, none⟩ = some u ∧ wr.ownsRow 0 24 1 u l.length (strs l) := by
          rcases hvals.2 with ⟨h1, h2⟩ | ⟨g7, cap, cur, h1, _, h3, h4, h5, h6, h7⟩
          · refine ⟨none, 0, by rw [h1, h2], fun j l hj => ?_⟩
            rw [List.length_eq_zero_iff.1 h2] at hj
            simp at hj
          · refine ⟨some ⟨g7, 0, none⟩, cap, h1, fun j l hj => ?_⟩
            obtain ⟨u, hu, hu2, _⟩ := hin j l hj
            refine ⟨g7, u, rfl, ?_, hu2⟩
            rw [Nat.mul_one] at h7
            have hjl := (List.getElem?_eq_some_iff.1 hj).1
            rw [← h7, List.getElem?_take_of_lt hjl] at hu
            simp only [World.cell?, h3, Option.isSome_none, Bool.false_eq_true, if_false]
            simpa using hu
        rw [e7] at hlook
        have hcr := hI2.cells.2
        have hPl := hPN l0
        have HC7 := Lib.hid hc7
        have hsub : Hid (goalP ↔ ∃ l ∈ Pw l0, (l0 :: lrest).Sublist l ∧ l.Sublist es) := by
          show _ ↔ _
          rw [HM.out, hlk0]
          constructor
          · rintro (h | ⟨x, hx, l, h1, h2, h3⟩)
            · cases h
            · cases hx
              exact ⟨l, h1, h2, h3⟩
          · rintro ⟨l, h1, h2, h3⟩
            exact .inr ⟨l0, rfl, l, h1, h2, h3⟩
        have hlkl : (l0 :: lrest).length ≤ 32 := by rw [← hlk0]; omega
        have HLkR : Hid (Reads wr (.slice (some ⟨g5, 0, none⟩) (l0 :: lrest).length c5) (l0 :: lrest)) := by
          show Reads _ _ _
          rw [← hlk0]
          exact reads_terms HLk3.out
        have HEsP := Lib.hid (part_terms hrow2)
        have m1 : (0 : Int) < ((l0 :: lrest).length : Int) := by rw [List.length_cons]; omega
        have m2 : ¬ (((l0 :: lrest).length : Int) = 0) := by omega
        have m3 : ((((l0 :: lrest).length : Nat) : Int) == 0) = false := by rw [beq_eq_false_iff_ne]; omega
        have HLm : Hid (∀ l ∈ Pw l0, ∃ b, K b ∧ b.getD 0 0 = 101 ∧ Tm.ofL b = l) := fun l hl => HP1.out l0 l hl
        generalize hlkk : l0 :: lrest = lk at *
        generalize Pw l0 = L at *
        clear hI2 hg hk hrow2 hcells hlk hG hR2 hsep hPN hP1 hP2 HM HI2 HLk HLk3 hvals hin htag hslot hlk0 hc7
        go_wp2
        go_quiet (fail)
        have HWr : Hid (RowI (wr.drewN nq) T r sm pm (n + es.flatten.length) N K ∧ W.grownBy (wr.drewN nq) (some sm)) := ⟨HI3.out.keep (Nat.le_refl _) (fun _ _ _ => rfl), grown_trans HG.out ⟨rfl, rfl, rfl, Nat.le_refl _, fun _ _ _ => rfl⟩⟩
        have HLkR2 : Hid (Reads (wr.drewN nq) (.slice (some ⟨g5, 0, none⟩) lk.length c5) lk) := HLkR.out.below (below_drewN (Below.refl _ _) nq)
        have HEsP2 : Hid (PartOf (wr.drewN nq) (.slice A es.length c) es) := HEsP.out
        have HC7b : Hid (∀ (j : Nat) (l : List (List UInt8)), L[j]? = some l → ∃ g7 u, A7 = some ⟨g7, 0, none⟩ ∧ (wr.drewN nq).cell? ⟨g7, j, none⟩ = some u ∧ (wr.drewN nq).ownsRow 0 24 1 u l.length (strs l)) := fun j l hj => by
          obtain ⟨g7, u, h1, h2, h3⟩ := HC7.out j l hj
          exact ⟨g7, u, h1, h2, row_same h3 (fun _ _ => rfl)⟩
        have HLb : Hid (∀ l ∈ L, l.length ≤ 32 ∧ l.Pairwise Tm.leq) := fun l hl => by
          obtain ⟨b, k1, k2, k3⟩ := HLm.out l hl
          rw [← k3]
          exact HSb.out b k1 k2
        clear HC7 HLkR HEsP hlook hcr hcl0 m1 m2 m3 HI3 HG e7 HRow HI HN HP HPw HRt HSb HP1
        obtain ⟨wq, hwq⟩ : ∃ wq, wr.drewN nq = wq := ⟨_, rfl⟩
        rw [hwq] at HWr HLkR2 HEsP2 HC7b ⊢
        clear hwq
        go_wp2
        go_loopg [37] L.length (fun k v37 w4 => Trying lk es L wq k v37 w4)
        case atStart => exact ⟨0, by omega, rfl, by simp, rfl⟩
        case round =>
          obtain ⟨j, hJ, rfl, hno, rfl⟩ := hrel
          have HNo := Lib.hid hno
          have HJ := Lib.hid hJ
          clear hno hJ
          by_cases hjl : j < L.length
          · obtain ⟨l, hl⟩ : ∃ l, L[j]? = some l := ⟨_, List.getElem?_eq_getElem hjl⟩
            obtain ⟨g7, u, rfl, hcell, hrl⟩ := HC7b.out j l hl
            obtain ⟨hl32, hls⟩ := HLb.out l (List.mem_of_getElem? hl)
            have HA1 := Lib.hid (among_calls lk l (.slice (some ⟨g5, 0, none⟩) lk.length c5) u wr HLkR2.out (part_terms hrl) (by omega) (by omega) hls)
            have HA2 := Lib.hid (among_calls l es u (.slice A es.length c) wr (reads_terms hrl) HEsP2.out (by omega) (by omega) HSt.out)
            have l1 : (j : Int) < (L.length : Int) := by omega
            have l2 : (0 : Int) ≤ (j : Int) := by omega
            have HL := Lib.hid hl
            clear hl hrl hls
            go_wp2_with fail
            refine HA1.out.mono ?_
            rintro e' w' ⟨q1, rfl, hq1, rfl⟩
            have step : ∀ (hf : ¬ (lk.Sublist l ∧ l.Sublist es)), Trying lk es L wr (gk - 1) (.int .i64 ((j + 1 : Nat) : Int)) wr := fun hf =>
              ⟨j + 1, by have := HJ.out; omega, rfl, fun l' hl' => by
                have := List.take_add_one (l := L) (i := j)
                rw [HL.out] at this
                rw [this] at hl'
                rcases List.mem_append.1 hl' with h | h
                · exact HNo.out l' h
                · simp at h
                  rw [h]
                  exact hf, rfl⟩
            have HStep := Lib.hid step
            have hgk : gk - 1 < gk := by have := HJ.out; omega
            clear step
            cases q1 with
            | false =>
              have hf : Hid (¬ (lk.Sublist l ∧ l.Sublist es)) := fun h => by have := hq1.2 h.1; cases this
              clear hq1
              go_wp2
              go_roundg (gk - 1)
              case measure => exact hgk
              case rel => exact HStep.out hf.out
            | true =>
              have h1 := Lib.hid (hq1.1 rfl)
              clear hq1
              go_wp2_with fail
              refine HA2.out.mono ?_
              rintro e' w' ⟨q2, rfl, hq2, rfl⟩
              cases q2 with
              | false =>
                have hf : Hid (¬ (lk.Sublist l ∧ l.Sublist es)) := fun h => by have := hq2.2 h.2; cases this
                clear hq2
                go_wp2
                go_roundg (gk - 1)
                case measure => exact hgk
                case rel => exact HStep.out hf.out
              | true =>
                have hyes : Hid goalP := hsub.out.2 ⟨l, List.mem_of_getElem? HL.out, h1.out, hq2.1 rfl⟩
                clear hq2
                go_wp2
                exact HHQ.out true wr (by simp [hyes.out]) HWr.out.1 HWr.out.2
          · obtain rfl : j = L.length := by have := HJ.out; omega
            have l1 : ¬ ((L.length : Int) < (L.length : Int)) := by omega
            have hno : Hid (¬ goalP) := fun h => by
              obtain ⟨l, h1, h2, h3⟩ := hsub.out.1 h
              have := HNo.out
              rw [List.take_length] at this
              exact this l h1 ⟨h2, h3⟩
            go_wp2
            exact HHQ.out false wr (by simp [hno.out]) HWr.out.1 HWr.out.2

end Go.Proofs.Ytloheongiceliaa
end
