/- NetLost: of frames that are taken out at any places each comes once, and what is left lies in the order in which it lay. -/
import Derived.Test.YtildapcdkipakaaNtRoom
import Derived.Test.YtildapcdkipakaaNtHeardP
import Derived.Deep.CutBlock
import Derived.Deep.DeepCutAuto
import Derived.Sort.LoopGhostIn
namespace Go.Proofs.Ytildapcdkipakaa.L8
open Go.ChangeShapes Go.WideShapes Go.ChangeAt Go.RowKit Go.Deep

theorem add_off8 (g o j : Nat) : (⟨g, o, none⟩ : Addr).add j = ⟨g, o + j, none⟩ := by
  unfold Addr.add
  split
  · rename_i h; subst h; rfl
  · simp
theorem strs_len (l : List Bytes) : (strs l).length = l.length := by simp [strs]
theorem strs_one (l : List Bytes) : ∀ u ∈ strs l, u.oneCell' = true := by
  intro u hu
  obtain ⟨x, _, rfl⟩ := List.mem_map.1 hu
  rfl
/-- append onto a slice that the call owns, at a step of a region that draws its order. -/
theorem step_append_owned {P : Program} {w : World} {ops : Array Oper} {o : Oper} {a : Act} {K : Act → World → Prop} {Q : Exit → Act → World → Prop} {E : Prop} (hgd : o.guard = none) (s x : Operand) (t : TypeId)
    (ho : o.op = .call { callee := .builtin .append, args := #[s, x], argTypes := #[t, t] })
    (base : Nat) (e : TypeId) (i : TypeInfo) (z : Value) (size bytes : Nat) (ht : P.underlying t = some (.slice e)) (hi : P.info? e = some i) (hz : i.zero = some z)
    (hsize : i.size = size) (hby : i.bytes = bytes) (hzs : z.cells.size = size) (hsz : 0 < size)
    (v : Value) (n : Nat) (xs : List Value) (hs : a.eval s = v) (hown : w.ownsRow base e size v n xs)
    (ad : Addr) (m c : Nat) (news : List Value) (hx : a.eval x = .slice (some ad) m c) (hl : news.length = m * size) (hnews : ∀ j u, news[j]? = some u → w.cell? (ad.add j) = some u) (h1 : ∀ u ∈ news, u.oneCell' = true)
    (h63 : n + m ≤ maxLen) (hbytes : (n + m) * bytes ≤ 140737488355328) (hbase : base ≤ w.heap.size)
    (h : ∀ v' w', w'.ownsRow base e size v' (n + m) (xs ++ news) → w.grownBy w' v.ownBlock → K (a.put o.dst v') w') :
    if Region.wanted o (yielded ops a.tmps) = true then Oper.wp P o a w K Q else E := by
  have hw : Region.wanted o (yielded ops a.tmps) = true := by simp [Region.wanted, hgd]
  rw [if_pos hw]
  obtain ⟨v', w', hr, h2, h3, _⟩ := run_append_own (P := P) w base t o.type e i z size bytes ht hi hz hsize hby hzs hsz v n xs hown ad m c news hl hnews h1 h63 hbytes hbase
  unfold Oper.wp execOp
  simp only [ho, resolve, invoke, builtin, Sem.run_bind, Sem.run_pure, Result.andThen_ok, List.map_toArray, List.map_cons, List.map_nil, hs, hx, hr]
  exact h v' w' h2 h3
/-- One element is cut out: what the two appends read. -/
theorem cut_facts {w7 V1 : World} {B g cap : Nat} {e : TypeId} {vs : List Value} {L at_ : Nat} (hrow : w7.ownsRow B e 1 (.slice (some ⟨g, 0, none⟩) L cap) L vs) (hV1 : Below w7.heap.size w7 V1) :
    (∀ j u, (vs.take at_)[j]? = some u → V1.cell? ((⟨g, 0, none⟩ : Addr).add j) = some u) ∧ (∀ V, V1.grownBy V (some w7.heap.size) → ∀ j u, (vs.drop (at_ + 1))[j]? = some u → V.cell? ((⟨g, at_ + 1, none⟩ : Addr).add j) = some u) := by
  have hgl := (hrow.lt g rfl).2
  have hc : ∀ j u, vs[j]? = some u → w7.cell? ⟨g, j, none⟩ = some u := fun j u hj => by
    have := hrow.cells (g := g) rfl j u hj
    rw [add_zero8] at this
    exact this
  refine ⟨fun j u hu => ?_, fun V hV j u hu => ?_⟩
  · rw [add_zero8]
    have hj := (List.getElem?_eq_some_iff.1 hu).1
    rw [List.getElem?_take_of_lt (by simp at hj; omega)] at hu
    exact (hV1.cell (p := ⟨g, j, none⟩) hgl).trans (hc j u hu)
  · rw [add_off8]
    rw [List.getElem?_drop] at hu
    have h1 := (hV1.cell (p := ⟨g, at_ + 1 + j, none⟩) hgl).trans (hc _ u hu)
    rw [hV.cell_far ⟨g, at_ + 1 + j, none⟩ (by have := hV1.size; simp; omega) (by simp; omega)]
    exact h1
/-- A row of terms lies apart from a net. -/
theorem NtAt.term_not2 {W : World} {B h : Nat} {l : List Dg} {v : Value} {b n : Nat} {hs : List Bytes} (a : NtAt W B h l v b n hs) {B' N : Nat} {u : Value} {ys : List Value} (r : W.ownsRow B' 34 1 u N ys) : ∀ q, u.ownBlock = some q → ¬ NtIn h v b q := by
  intro q hq hn
  rcases r.2 with ⟨e3, _⟩ | ⟨g, cap, cur, e3, _, e4, _⟩
  · rw [e3] at hq; cases hq
  · rw [e3] at hq
    obtain rfl : g = q := by cases hq; rfl
    rcases hn with e | e | e
    · have := a.own
      rw [← e, e4] at this
      simp at this
    · obtain ⟨es, cl, e5⟩ := a.map.block
      rw [← e, e4] at e5
      simp at e5
    · rcases a.row.2 with ⟨e6, _⟩ | ⟨g2, cap2, cur2, e6, _, e7, _⟩
      · rw [e6] at e; cases e
      · rw [e6] at e
        obtain rfl : g2 = g := by cases e; rfl
        rw [e4] at e7
        simp at e7
def dgL (i : Nat) : Dg := ⟨1, 2, numB i⟩
theorem dgL_ok (i : Nat) : (dgL i).ok := ⟨⟨by show (1 : Int) ≤ 1; omega, by show (1 : Int) ≤ 8; omega⟩, ⟨by show (1 : Int) ≤ 2; omega, by show (2 : Int) ≤ 8; omega⟩, numB_right _⟩
theorem info_term8 : (Try.prog.info? 34).map (fun i => (i.zero, i.size, i.bytes)) = some (some (.string ⟨#[]⟩), 1, 16) := by kernel_rfl
def nums8 (ls : List Nat) : List Bytes := ls.map numB
theorem nums8_len (ls : List Nat) : (nums8 ls).length = ls.length := by simp [nums8]
/-- The net and the row of what is left. -/
def LMid (w : World) (B h K : Nat) (ls : List Nat) (n : Nat) (hs : List Bytes) (v8 : Value) (wr : World) : Prop :=
  ∃ v : Value, NtAt wr B h (ls.map dgL) v B n hs ∧ wr.ownsRow B 34 1 v8 ls.length (strs (nums8 ls)) ∧ ls.length ≤ K ∧ Below w.heap.size w wr ∧ B ≤ wr.heap.size
def LFirst (w : World) (B h K k : Nat) (v8 vi : Value) (wr : World) : Prop := ∃ i : Nat, k + i = K ∧ vi = .int .i64 i ∧ LMid w B h K (List.range i) i (nums8 (List.range i)) v8 wr
def LEnd (w : World) (B h K : Nat) (v8 : Value) (wr : World) : Prop := ∃ ls, LMid w B h K ls K (nums8 (List.range K)) v8 wr
def LGo (w : World) (B h K N k : Nat) (v8 vi : Value) (wr : World) : Prop := ∃ j : Nat, k + j = N ∧ vi = .int .i64 j ∧ LEnd w B h K v8 wr

end Go.Proofs.Ytildapcdkipakaa.L8
