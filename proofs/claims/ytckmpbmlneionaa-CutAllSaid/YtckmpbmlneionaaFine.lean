/- The makers at small right terms make what they should; what is read of a right term with anything behind. -/
import Derived.Test.YtckmpbmlneionaaMk
namespace Go.Proofs.Ytckmpbmlneionaa
open Go.ChangeShapes Go.WideShapes Go.ChangeAt Go.RowKit

namespace Tm
theorem put_fine {hd : List UInt8} {ps : List (List UInt8)} (h1 : hd.length ≤ 2) (h2 : ps.length ≤ 20) (hg : ∀ p ∈ ps, Good 41 600 p) : put hd ps = (hd ++ ps.flatten, 0) := by
  have hf : ps.flatten.length ≤ ps.length * 600 := by
    clear h2
    induction ps with
    | nil => simp
    | cons p ps ih =>
      have a1 := (hg p (by simp)).2.2
      have a2 := ih (fun q hq => hg q (by simp [hq]))
      simp only [List.flatten_cons, List.length_append, List.length_cons]
      omega
  have hm : maxDepth ps ≤ 41 := maxDepth_bound (fun p hp => (hg p hp).2.1)
  exact put_ok (fun p hp => (hg p hp).1) (by unfold total; omega) (by omega)
end Tm

theorem exact_out {W : World} {r : List UInt8 × Nat} {l : List UInt8} (h : r = (l, 0)) {e : Ending} {w' : World} (hp : Pair2 W r e w') : One W (.tuple #[.string ⟨l.toArray⟩, .int .i64 0]) e w' := by
  subst h
  exact hp

theorem cat3 (k : UInt8) (a b : List UInt8) : (⟨#[k]⟩ ++ ⟨a.toArray⟩ ++ ⟨b.toArray⟩ : ByteArray).toList = k :: (a ++ b) := by
  rw [cat_head, ByteArray.mk_append_mk, ByteArray.toList_mk]
  rfl
where cat_head : (⟨#[k]⟩ ++ ⟨a.toArray⟩ : ByteArray) = ⟨(k :: a).toArray⟩ := ByteArray.mk_append_mk [k] a
theorem cat2 (k : UInt8) (a : List UInt8) : (⟨#[k]⟩ ++ ⟨a.toArray⟩ : ByteArray).toList = k :: a := by
  have : (⟨#[k]⟩ ++ ⟨a.toArray⟩ : ByteArray) = ⟨(k :: a).toArray⟩ := ByteArray.mk_append_mk [k] a
  rw [this, ByteArray.toList_mk]

theorem depth_at (l : List UInt8) (h : l.length ≤ 20000) (W : World) : Calls Try.prog 81 #[.string ⟨l.toArray⟩] W (One W (.int .i64 (Tm.depthOf l))) := by
  have := Depth_calls ⟨l.toArray⟩ (by rw [size_list]; unfold maxLen; omega) W
  simpa using this

namespace Tm
theorem take_good {k : Nat} {t : List UInt8} (h : Good k 20000 t) (y : List UInt8) : take (t ++ y) = (t, y, 0) := by
  obtain ⟨hp, hl⟩ := right_parse h.1
  have hs := parse_stable 400 t t.length (depthOf t) hp y
  rw [List.take_length] at hs
  have hr : read (t ++ y) = (t.length, depthOf t, 0) := by rw [read_parse]; exact hs
  unfold take
  rw [hr]
  simp only [ne_eq, not_true_eq_false, if_false]
  rw [if_neg (by omega), List.take_left, List.drop_left]
theorem flat_le {ts : List (List UInt8)} (h : ∀ t ∈ ts, t.length ≤ 600) : ts.flatten.length ≤ ts.length * 600 := by
  induction ts with
  | nil => simp
  | cons p ps ih =>
    have a1 := h p (by simp)
    have a2 := ih (fun q hq => h q (by simp [hq]))
    simp only [List.flatten_cons, List.length_append, List.length_cons]
    omega
end Tm

theorem take_at {k : Nat} {t : List UInt8} (h : Tm.Good k 20000 t) (y : List UInt8) (hy : y.length ≤ 1000000) (W : World) :
    Calls Try.prog 73 #[.string ⟨(t ++ y).toArray⟩] W (One W (.tuple #[.string ⟨t.toArray⟩, .string ⟨y.toArray⟩, .int .i64 0])) := by
  have hl := h.2.2
  have := Take_calls ⟨(t ++ y).toArray⟩ (by rw [size_list, List.length_append]; unfold maxLen; omega) W
  have e : (⟨(t ++ y).toArray⟩ : ByteArray).data.toList = t ++ y := by simp
  rw [e, Tm.take_good h y] at this
  exact this

end Go.Proofs.Ytckmpbmlneionaa
