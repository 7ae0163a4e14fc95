/- Contracts of Pair, Hash, Seal, Sign and Key: what put makes of the head and the parts, for all texts. -/
import Derived.Test.YtfmjjickgjkcbaaPut
namespace Go.Proofs.Ytfmjjickgjkcbaa
open Go.ChangeShapes Go.WideShapes Go.ChangeAt Go.RowKit

theorem head_cells {w : World} {g : Nat} {hd : List UInt8} {t : TypeId} (h : w.heap[g]? = some (.cells (Lib.byteCells hd).toArray t (0, 0))) :
    ∀ j u, (Lib.byteCells hd)[j]? = some u → w.cell? ((⟨g, 0, none⟩ : Addr).add j) = some u := by
  have := World.news_of_block h
  simpa using this
theorem text_cells {w : World} {g : Nat} {xs : List (List UInt8)} {t : TypeId} (h : w.heap[g]? = some (.cells (xs.map fun x => Value.string ⟨x.toArray⟩).toArray t (0, 0))) : Texts w g xs := by
  intro j x hj
  rw [cell_of_row w g j _ t _ h]
  simp [hj]
theorem of_bytes (s : ByteArray) : s = ⟨s.data.toList.toArray⟩ := by cases s; simp

theorem put_two (hd : List UInt8) (xs : List (List UInt8)) (w : World) (hn : xs.length ≤ 40) (hh : 0 < hd.length) (hh2 : hd.length ≤ 10) (hp : ∀ p ∈ xs, p.length ≤ maxLen) (th tp : TypeId) :
    Calls Try.prog 47 #[.slice (some ⟨w.heap.size, 0, none⟩) hd.length hd.length, .slice (some ⟨w.heap.size + 1, 0, none⟩) xs.length xs.length]
      ((w.alloc (.cells (Lib.byteCells hd).toArray th)).alloc (.cells (xs.map fun x => Value.string ⟨x.toArray⟩).toArray tp)) (Pair2 w (Tm.put hd xs)) := by
  have h1 : (w.alloc (.cells (Lib.byteCells hd).toArray th)).heap.size = w.heap.size + 1 := by simp
  have h2 := heap_alloc_new (w.alloc (.cells (Lib.byteCells hd).toArray th)) (.cells (xs.map fun x => Value.string ⟨x.toArray⟩).toArray tp)
  rw [h1] at h2
  have h3 : ((w.alloc (.cells (Lib.byteCells hd).toArray th)).alloc (.cells (xs.map fun x => Value.string ⟨x.toArray⟩).toArray tp)).heap[w.heap.size]? = some (.cells (Lib.byteCells hd).toArray th (0, 0)) := by
    rw [Below.heap_alloc _ _ _ (by rw [h1]; omega)]
    exact heap_alloc_new w _
  refine (put_calls hd xs w.heap.size hd.length (w.heap.size + 1) xs.length _ (by simp; omega) (by simp) (text_cells h2) (head_cells h3) hn hh hh2 hp).mono ?_
  rintro e w' ⟨rfl, hb⟩
  refine ⟨rfl, ((((Below.refl w.heap.size w).alloc (Nat.le_refl _) _).alloc (by simp) _).trans (hb.mono (by simp; omega)))⟩

set_option maxRecDepth 100000 in
set_option maxHeartbeats 400000 in
theorem Sign_calls (a b : ByteArray) (ha : a.size ≤ maxLen) (hb : b.size ≤ maxLen) (w : World) :
    Calls Try.prog 33 #[.string a, .string b] w (Pair2 w (Tm.put [120] [a.data.toList, b.data.toList])) := by
  have hc := put_two [120] [a.data.toList, b.data.toList] w (by simp) (by simp) (by simp) (by
    intro p hp
    simp only [List.mem_cons, List.not_mem_nil, or_false] at hp
    rcases hp with rfl | rfl
    · rw [len_bytes]; exact ha
    · rw [len_bytes]; exact hb) 5 37
  have e : (List.map (fun x : List UInt8 => Value.string ⟨x.toArray⟩) [a.data.toList, b.data.toList]).toArray = #[.string a, .string b] := by
    show #[Value.string ⟨a.data.toList.toArray⟩, Value.string ⟨b.data.toList.toArray⟩] = _
    rw [← of_bytes, ← of_bytes]
  rw [e] at hc
  generalize Tm.put [120] [a.data.toList, b.data.toList] = r at *
  have HC := Lib.hid hc
  clear hc e
  go_enter Try.func33, Try.ntmps33
  go_wp2_with (go_at_call 47; refine HC.out.mono ?_; rintro e' w' ⟨rfl, hbw⟩)
  go_ret2
  exact ⟨rfl, hbw⟩

end Go.Proofs.Ytfmjjickgjkcbaa
