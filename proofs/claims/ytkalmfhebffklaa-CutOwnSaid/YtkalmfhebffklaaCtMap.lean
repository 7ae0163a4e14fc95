/- The map of the longest rows: keyed by old view and sender; what it holds, as a list that stands by keys. -/
import Derived.Test.YtkalmfhebffklaaCtPure
import Derived.Maps.OwnSet
import Derived.Maps.Range
import Derived.DeepKeys4
namespace Go.Proofs.Ytkalmfhebffklaa.L11
open Go.ChangeShapes Go.WideShapes Go.ChangeAt Go.RowKit Go.Deep Go.Sort
open Go.Maps (Keyed has)

def heldC (v : Value) : Option (DataW Value × List MemPlace) := some (.held v, [])
theorem keyed_w : Keyed Try.prog 104 := Keyed.of_law (deep_law_laid L5.laid_out (m := 4) (by omega) (of_decide_eq_true (by kernel_rfl)) (by kernel_rfl) (by kernel_rfl))
def keyV (e c s : Int) : Value := .agg #[.int .i64 e, .int .i64 c, .int .i64 s]
def keyL (k : Int × Int × Int) : Lit := .string (keyBytes [.int .i64 k.1, .int .i64 k.2.1, .int .i64 k.2.2])
theorem wf_of {a : Int} (h : isInt a) : (Lit.int .i64 a).wf = true := by
  have := h
  unfold isInt at this
  simpa [Lit.wf, IntKind.min, IntKind.max, IntKind.signed, IntKind.bits] using this
theorem lits_int {d : Nat} {a : Int} (h : isInt a) : Try.prog.keyLits (d + 1) 3 [.int .i64 a] = some [.int .i64 a] := by
  unfold Program.keyLits
  rw [Try.underlying3]
  simp [wf_of h]
theorem cells_int : Try.prog.cellsOf 3 = 1 := by kernel_rfl
theorem cells_id : Try.prog.cellsOf 55 = 2 := by kernel_rfl
theorem cells_w : Try.prog.cellsOf 104 = 3 := by kernel_rfl
theorem lits_id {d : Nat} {a b : Int} (h : isInt a) (k : isInt b) : Try.prog.keyLits (d + 2) 55 [.int .i64 a, .int .i64 b] = some [.int .i64 a, .int .i64 b] := by
  unfold Program.keyLits
  rw [Try.underlying55]
  simp [cells_int, cells_id, lits_int h, lits_int k, List.mapM_cons]
theorem lits_w {d : Nat} {a b c : Int} (h : isInt a) (k : isInt b) (l : isInt c) : Try.prog.keyLits (d + 3) 104 [.int .i64 a, .int .i64 b, .int .i64 c] = some [.int .i64 a, .int .i64 b, .int .i64 c] := by
  unfold Program.keyLits
  rw [Try.underlying104]
  simp [cells_int, cells_id, cells_w, lits_id h k, lits_int l, List.mapM_cons]
theorem key_w {a b c : Int} (h : isInt a) (k : isInt b) (l : isInt c) : keyOf Try.prog 104 (keyV a b c) = some (keyL (a, b, c)) := by
  unfold keyOf
  rw [Try.underlying104]
  have h1 : (Try.prog.keyType 104) = true := by kernel_rfl
  have h2 : (keyV a b c).formed Try.prog 104 = true := by simp [Value.formed, keyV, Try.underlying104, cells_w]
  have h10 : 10 ≤ Try.prog.types.size := of_decide_eq_true (by kernel_rfl)
  have h3 : Try.prog.keyLits (Try.prog.types.size + 1) 104 (keyV a b c).cells.toList = some [.int .i64 a, .int .i64 b, .int .i64 c] := by
    obtain ⟨d, hd⟩ : ∃ d, Try.prog.types.size + 1 = d + 3 := ⟨Try.prog.types.size - 2, by omega⟩
    rw [hd]
    exact lits_w h k l
  show (if (Try.prog.keyType 104 && (keyV a b c).formed Try.prog 104) = true then (Try.prog.keyLits (Try.prog.types.size + 1) 104 (keyV a b c).cells.toList).map fun ls => Lit.string (keyBytes ls) else none) = _
  rw [h1, h2, h3]
  rfl
theorem keyL_inj {a b c a' b' c' : Int} (h : isInt a) (k : isInt b) (l : isInt c) (h' : isInt a') (k' : isInt b') (l' : isInt c') (e : keyL (a, b, c) = keyL (a', b', c')) : (a, b, c) = (a', b', c') := by
  have h1 := key_w h k l
  rw [e] at h1
  have := keyed_w.inj h1 (key_w h' k' l')
  simp [keyV] at this
  simp [this]
theorem keyL_lit (k : Int × Int × Int) : WideAt.IsKeyLit (keyL k) := by simp [keyL, WideAt.IsKeyLit]

def Pt.val (p : Pt) : Value := .agg p.cells.toArray
def intsP (p : Pt) : Prop := isInt p.ep ∧ isInt p.co ∧ isInt p.se
theorem keyL_iff {p q : Pt} (hp : intsP p) (hq : intsP q) : keyL (keyP p) = keyL (keyP q) ↔ keyP p = keyP q :=
  ⟨fun e => keyL_inj hp.1 hp.2.1 hp.2.2 hq.1 hq.2.1 hq.2.2 e, fun e => by rw [e]⟩
/-- The map in memory: what stands in ps, each under its key. -/
structure MapOf (D : DataW Value) (ps : List Pt) : Prop where
  sorted : SortedP ps
  ints : ∀ p ∈ ps, intsP p
  has : ∀ kl, has D kl = true ↔ ∃ p ∈ ps, kl = keyL (keyP p)
  at_ : ∀ p ∈ ps, ∀ z, D.atKey (keyL (keyP p)) z = .held p.val
  none : ∀ x, intsP x → (∀ p ∈ ps, keyP p ≠ keyP x) → ∀ z, D.atKey (keyL (keyP x)) z = z
def MapW (W : World) (b n : Nat) (ps : List Pt) : Prop := ∃ D : DataW Value, W.ownsMap Try.prog 104 heldC b n D ∧ MapOf D ps
theorem MapW.made (W : World) : MapW (W.alloc (.map #[] 0)) W.heap.size 0 [] :=
  ⟨.map [], World.ownsMap_made W _ _ _, ⟨List.Pairwise.nil, by simp, by simp [Maps.has], by simp, fun x _ _ z => by simp [DataW.atKey]⟩⟩
theorem MapW.lt {W : World} {b n : Nat} {ps : List Pt} (h : MapW W b n ps) : b < W.heap.size := by
  obtain ⟨D, h1, _⟩ := h
  exact h1.lt
theorem MapW.same {W W' : World} {b n : Nat} {ps : List Pt} (h : MapW W b n ps) (hb : W'.heap[b]? = W.heap[b]?) : MapW W' b n ps := by
  obtain ⟨D, ⟨es, clock, h1, h2⟩, h3⟩ := h
  exact ⟨D, ⟨es, clock, hb.trans h1, h2⟩, h3⟩
def zeroPt : Value := .agg #[.int .i64 0, .int .i64 0, .int .i64 0, .slice none 0 0]
theorem zero_part (W : World) : (zeroValue 60).run Try.prog W = .ok zeroPt W := by kernel_rfl
def lookP (ps : List Pt) (x : Pt) : Value := match ps.find? (fun p => decide (keyP p = keyP x)) with | some p => p.val | none => zeroPt
theorem MapW.look {W : World} {b n : Nat} {ps : List Pt} (h : MapW W b n ps) {x : Pt} (hx : intsP x) :
    (Instr.lookup 102 (.map (some b)) (keyV x.ep x.co x.se) false).run Try.prog W = .ok (lookP ps x) W := by
  obtain ⟨D, h1, h2⟩ := h
  obtain ⟨v, q, hrun, hv⟩ := h1.lookup keyed_w Try.underlying102 (zero_part W) (zd := .held zeroPt) (zp := []) rfl (key_w hx.1 hx.2.1 hx.2.2)
  rw [hrun]
  simp only [heldC, Option.some.injEq, Prod.mk.injEq] at hv
  unfold lookP
  cases hf : ps.find? (fun p => decide (keyP p = keyP x)) with
  | none =>
    have hn : ∀ p ∈ ps, keyP p ≠ keyP x := fun p hp => by simpa using List.find?_eq_none.1 hf p hp
    have h3 := h2.none x hx hn (.held zeroPt)
    have h4 := hv.1
    rw [show (x.ep, x.co, x.se) = keyP x from rfl, h3] at h4
    simp at h4
    rw [h4]
  | some p =>
    have hp := List.mem_of_find?_eq_some hf
    have hk : keyP p = keyP x := by simpa using List.find?_some hf
    have h3 := h2.at_ p hp (.held zeroPt)
    have h4 := hv.1
    rw [show (x.ep, x.co, x.se) = keyP x from rfl, ← hk, h3] at h4
    simp at h4
    rw [h4]
theorem MapW.set {W : World} {b n : Nat} {ps : List Pt} (h : MapW W b n ps) (hn : n < maxLen) {x : Pt} (hx : intsP x) (hl : lenAt ps x < x.it.l.length) :
    ∃ W', (Instr.mapUpdate 102 (.map (some b)) (keyV x.ep x.co x.se) x.val).run Try.prog W = .ok () W' ∧ MapW W' b (n + 1) (stepP ps x) ∧ W.grownBy W' (some b) ∧ W'.heap.size = W.heap.size := by
  obtain ⟨D, h1, h2⟩ := h
  obtain ⟨W', hrun, h3, h4⟩ := h1.store keyed_w Try.underlying102 hn (key_w hx.1 hx.2.1 hx.2.2) (d := .held x.val) (ps := []) rfl
  rw [show (x.ep, x.co, x.se) = keyP x from rfl] at h3
  have hput := stepP_yes h2.sorted hl
  refine ⟨W', hrun, ⟨_, h3, ⟨stepP_sorted h2.sorted x, fun p hp => ?_, fun kl => ?_, fun p hp z => ?_, fun y hy hno z => ?_⟩⟩, h4.grown, ?_⟩
  · rcases (hput p).1 hp with rfl | ⟨hp, _⟩
    · exact hx
    · exact h2.ints p hp
  · by_cases hk : kl = keyL (keyP x)
    · subst hk
      rw [Maps.has_put_same h1.isMap (keyL_lit _)]
      simp only [true_iff]
      exact ⟨x, (hput x).2 (.inl rfl), rfl⟩
    · rw [Maps.has_put_other (by exact hk), h2.has kl]
      constructor
      · rintro ⟨p, hp, rfl⟩
        exact ⟨p, (hput p).2 (.inr ⟨hp, fun e => hk (by rw [e])⟩), rfl⟩
      · rintro ⟨p, hp, rfl⟩
        rcases (hput p).1 hp with rfl | ⟨hp, _⟩
        · exact absurd rfl hk
        · exact ⟨p, hp, rfl⟩
  · rcases (hput p).1 hp with rfl | ⟨hp, hne⟩
    · exact Maps.atKey_put_same h1.isMap (keyL_lit _) _ z
    · have : keyL (keyP p) ≠ keyL (keyP x) := fun e => hne ((keyL_iff (h2.ints p hp) hx).1 e)
      rw [Maps.atKey_put_other (by exact this)]
      exact h2.at_ p hp z
  · have hne : keyP y ≠ keyP x := fun e => hno x ((hput x).2 (.inl rfl)) e.symm
    have : keyL (keyP y) ≠ keyL (keyP x) := fun e => hne ((keyL_iff hy hx).1 e)
    rw [Maps.atKey_put_other (by exact this)]
    refine h2.none y hy (fun p hp e => ?_) z
    exact hno p ((hput p).2 (.inr ⟨hp, fun e' => hne (e.symm.trans e')⟩)) e
  · obtain ⟨es, clock, es', clock', _, rfl⟩ := h4
    simp [ChangeMaps.setBlock]
end Go.Proofs.Ytkalmfhebffklaa.L11
