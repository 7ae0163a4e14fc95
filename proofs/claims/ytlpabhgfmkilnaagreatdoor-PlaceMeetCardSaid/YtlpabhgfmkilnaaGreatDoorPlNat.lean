/- What the laws over a made tree share: its members as numbers, rows as they lie in later worlds. -/
import Derived.Test.YtlpabhgfmkilnaaGreatDoorPlMade
namespace Go.Proofs.YtlpabhgfmkilnaaGreatDoor.L14
open Go.ChangeShapes Go.WideShapes Go.ChangeAt Go.RowKit Go.Deep
open Go.Proofs.YtlpabhgfmkilnaaGreatDoor.L13
open Go.Proofs.YtlpabhgfmkilnaaGreatDoor.L5 (One)

/-- A tree's members as numbers. -/
theorem mems_nat {t : Tr} (h : t.ok) : ∃ ps : List Nat, t.mems = ps.map (fun q : Nat => (q : Int)) ∧ (∀ p, p ∈ ps ↔ p ∈ t.procs) ∧ ps.Nodup ∧ ps.length = t.procs.length ∧ ∀ p ∈ ps, 1 ≤ p ∧ p ≤ 8 := by
  have hp : t.mems.Perm t.ints := List.mergeSort_perm _ _
  have hq : (t.mems.map Int.toNat).Perm (t.procs) := by
    have := hp.map Int.toNat
    have e : t.ints.map Int.toNat = t.procs := by
      unfold Tr.ints
      rw [List.map_map]
      have : (Int.toNat ∘ fun (q : Nat) => (q : Int)) = id := by funext q; simp
      rw [this, List.map_id]
    rwa [e] at this
  refine ⟨t.mems.map Int.toNat, ?_, fun p => hq.mem_iff, hq.nodup_iff.2 h.once, hq.length_eq, fun p hpp => h.small p (hq.mem_iff.1 hpp)⟩
  rw [List.map_map]
  have : ∀ x ∈ t.mems, ((fun q : Nat => (q : Int)) ∘ Int.toNat) x = id x := fun x hx => by
    have : x ∈ t.ints := hp.mem_iff.1 hx
    unfold Tr.ints at this
    obtain ⟨q, _, rfl⟩ := List.mem_map.1 this
    simp
  rw [List.map_congr_left this, List.map_id]
theorem many_le (t : Tr) (x : List UInt8) (ps : List Nat) : t.many x ps ≤ ps.length := by
  induction ps with
  | nil => exact Nat.le_refl _
  | cons p ps ih =>
    have := (t.duty_nodup p).count (a := x)
    simp only [Tr.many, List.length_cons, this]
    split <;> omega
theorem many_next (t : Tr) (x : List UInt8) {ps : List Nat} {k p : Nat} (h : ps[k]? = some p) : t.many x (ps.take (k + 1)) = t.many x (ps.take k) + (t.duty p).count x := by
  rw [List.take_add_one, h, t.many_append]
  simp [Tr.many]
theorem count_next (x : List UInt8) {D : List (List UInt8)} {j : Nat} {y : List UInt8} (h : D[j]? = some y) : (D.take (j + 1)).count x = (D.take j).count x + (if y = x then 1 else 0) := by
  rw [List.take_add_one, h, List.count_append]
  by_cases e : y = x
  · simp [e]
  · simp [e]
theorem up_few14 {t : Tr} (h : t.ok) (p : Nat) : (t.up p).length ≤ 15 := by
  have h1 : (t.up p).length ≤ t.down.length := by unfold Tr.up; rw [List.length_reverse]; exact List.length_filter_le _ _
  have := t.down_len
  have := t.size_procs
  have := h.few
  omega
def OutRel (w4 : World) (n k : Nat) (v7 : Value) (wr : World) : Prop := ∃ i : Nat, k + i = n ∧ v7 = .int .i64 i ∧ Below w4.heap.size w4 wr
def MidRel (t : Tr) (x : List UInt8) (ps : List Nat) (w4 : World) (k : Nat) (v8 v9 : Value) (wr : World) : Prop := ∃ j : Nat, k + j = ps.length ∧ v8 = .int .i64 (t.many x (ps.take j) : Nat) ∧ v9 = .int .i64 j ∧ Below w4.heap.size w4 wr
def InRel (x : List UInt8) (D : List (List UInt8)) (m0 : Nat) (w5 : World) (k : Nat) (v8 v11 : Value) (wr : World) : Prop := ∃ j : Nat, k + j = D.length ∧ v8 = .int .i64 ((m0 + (D.take j).count x : Nat) : Int) ∧ v11 = .int .i64 j ∧ Below w5.heap.size w5 wr
theorem TxA.at {w : World} {A : Option Addr} {n c : Nat} {zs : List (List UInt8)} (h : TxA w (.slice A n c) zs) : n = zs.length ∧ ∀ (j : Nat) (x : List UInt8), zs[j]? = some x → ∃ ad : Addr, A = some ad ∧ ∀ V, Below w.heap.size w V → V.cell? (ad.add j) = some (.string ⟨x.toArray⟩) := by
  obtain ⟨A', c', e, hr⟩ := h
  cases e
  refine ⟨rfl, fun j x hx => ?_⟩
  obtain ⟨ad, e, h1, h2⟩ := hr j x hx
  exact ⟨ad, e, fun V hb => (hb.cell (p := ad.add j) (by rw [addr_blk]; exact h1)).trans h2⟩
theorem ints_later {w : World} {A : Option Addr} {n c : Nat} {xs : List Int} (h : IntsA w (.slice A n c) xs) : n = xs.length ∧ ∀ (j : Nat) (x : Int), xs[j]? = some x → ∃ ad : Addr, A = some ad ∧ ∀ V, Below w.heap.size w V → V.cell? (ad.add j) = some (.int .i64 x) := by
  obtain ⟨A', c', e, hr⟩ := h.reads
  cases e
  refine ⟨rfl, fun j x hx => ?_⟩
  obtain ⟨ad, e, h1, h2⟩ := hr j x hx
  exact ⟨ad, e, fun V hb => (hb.cell (p := ad.add j) (by rw [addr_block]; exact h1)).trans h2⟩
end Go.Proofs.YtlpabhgfmkilnaaGreatDoor.L14
