/- Contract of list.fromBehind: the pieces of a row's term, the last one first. -/
import Derived.Test.YtckmpbmlneionaaPieces
namespace Go.Proofs.Ytckmpbmlneionaa
open Go.ChangeShapes Go.WideShapes Go.ChangeAt Go.RowKit Go.Shelf

attribute [local go_sem] Oper.semAt_some

/-- A region of which no panic is borne. -/
def noPanic (Q : Exit → Act → World → Prop) : Exit → Act → World → Prop
  | .panic _, _, _ => False
  | e, a, w => Q e a w
theorem wpIn_noPanic {F : Fence} {n : Nat} {P : Program} {c : Code} {a : Act} {w : World} {Q : Exit → Act → World → Prop} (h : c.wpIn F n P (noPanic Q) a w) : c.wpIn F n P Q a w :=
  wpIn_mono h (fun e a w h => by cases e <;> first | exact h | exact h.elim)

set_option maxRecDepth 100000 in
set_option maxHeartbeats 4000000 in
theorem behind1_in (n l Bl : Nat) (zs : List (List UInt8)) (v : Value) (X : Nat → Prop) (J : List (List UInt8) → World → Prop) (W : World) (hJ : Hangs W.heap.size J)
    (hY : ∀ m pre x W1, pre ++ [x] <+: Tm.pieces (Tm.back zs zs.length) → J pre W1 → YieldAt Fence.wide m Try.prog l #[.string ⟨x.toArray⟩] W1 fun e W' => e = .returned (.bool true) ∧ J (pre ++ [x]) W' ∧ Spare X W1 W')
    (hX : ∀ q, X q → q < W.heap.size) (hBc : W.cell? ⟨Bl, 0, none⟩ = some v) (hBl : Bl < W.heap.size) (hBX : ¬ X Bl) (hR : ReadsA X W v zs) (hlen : zs.length ≤ 1000000) (h0 : J [] W) :
    CallsIn Fence.wide n Try.prog 82 #[.func (.yield l) #[] #[], .pointer (some ⟨Bl, 0, none⟩)] W fun e W' => (∃ v, e = .returned v) ∧ J (Tm.pieces (Tm.back zs zs.length)) W' := by
  have HNum : Hid (∀ V : World, Calls Try.prog 35 #[.int .u64 0] V (One V (.string ⟨(117 :: Tm.be8 0).toArray⟩))) := fun V => Number_calls 0 (by decide) V
  have hv : ∃ A c, v = .slice A zs.length c := by obtain ⟨A, c, e, _⟩ := hR; exact ⟨A, c, e⟩
  obtain ⟨A, c, rfl⟩ := hv
  have HY0 : Hid (∀ w5, Below (W.alloc (.cells #[.func (.yield l) #[] #[]] 136)).drew.heap.size (W.alloc (.cells #[.func (.yield l) #[] #[]] 136)).drew w5 → (YieldAt Fence.wide (n - 1) Try.prog l #[.string ⟨(117 :: Tm.be8 0).toArray⟩] w5 fun e W' => e = .returned (.bool true) ∧ J [Tm.num0] W' ∧ Spare X w5 W') ∧ w5.cell? ⟨W.heap.size, 0, none⟩ = some (.func (.yield l) #[] #[])) := fun w5 b5 => by
    have h1 : J [] (W.alloc (.cells #[.func (.yield l) #[] #[]] 136)) := hJ [] W _ h0 (.alloc _ W _)
    have h2 : Below (W.alloc (.cells #[.func (.yield l) #[] #[]] 136)).heap.size (W.alloc (.cells #[.func (.yield l) #[] #[]] 136)) w5 := below_drew' b5
    exact ⟨hY (n - 1) [] Tm.num0 w5 ⟨_, rfl⟩ (hJ [] _ w5 h1 (.of_below h2)), (h2.cell (p := ⟨W.heap.size, 0, none⟩) (by simp)).trans (Boxed.new W 136 (.func (.yield l) #[] #[])).cell⟩
  have HB := Lib.hid (And.intro hJ (And.intro hY (And.intro hX (And.intro hBc (And.intro hBl (And.intro hBX hR))))))
  clear hJ hY hX hBX hR h0
  refine callsIn_of_wp_marks Try.func82 rfl trivial ?_ rfl
  simp only [Try.ntmps82, List.size_toArray, List.length_cons, List.length_nil, Nat.reduceAdd, Nat.reduceSub, Array.replicate_succ, Array.replicate_zero, List.push_toArray, List.append_toArray, List.nil_append, List.cons_append]
  have hmx : Try.prog.follows .mixedOrders = true := by kernel_rfl
  gi_wp2
  refine wpIn_noPanic ?_
  gi_region_with_o (first
    | (refine ⟨trivial, (fun h => nomatch h), ?_⟩; gi_at_call 35; refine (callsIn_wide.2 (HNum.out _)).mono ?_; rintro e' w5 ⟨rfl, b5⟩; obtain ⟨⟨fn, tmps, assign, body, hy5, hR5⟩, hc5⟩ := HY0.out w5 b5)
    | (refine ⟨(fun h => nomatch h), hR5.mono ?_⟩; rintro e' W3 ⟨rfl, hJ3, hs3⟩))
  all_goals
    obtain ⟨q1, q2, q3, q4, q5, q6, q7⟩ := HB.out
    have hsz5 := b5.size
    have hSA : Spare X W (W.alloc (.cells #[.func (.yield l) #[] #[]] 136)) := .alloc _ W _
    have hS5 : Spare X (W.alloc (.cells #[.func (.yield l) #[] #[]] 136)) w5 := .of_below (below_drew' b5)
    have hS3 : Spare X W W3 := (hSA.trans hS5).trans hs3
    have hzA : (W.alloc (.cells #[.func (.yield l) #[] #[]] 136)).heap.size = W.heap.size + 1 := by simp
    have hz3 : W.heap.size + 1 ≤ W3.heap.size := by have := hS5.size; have := hs3.size; omega
    have hcb : W3.cell? ⟨Bl, 0, none⟩ = some (.slice A zs.length c) := (hS3.at (a := ⟨Bl, 0, none⟩) q5 q6).trans q4
    have hbx : Boxed W3 W.heap.size 136 (.func (.yield l) #[] #[]) := by
      refine (hs3.same _ (by have := hS5.size; omega) (fun hx => by have := q3 _ hx; omega)).trans ?_
      exact ((below_drew' b5).block W.heap.size (by simp)).trans (Boxed.new W _ _)
    have HBk := Lib.hid (backward_calls _ A zs.length c rfl W3)
    have HS3 := Lib.hid (And.intro hS3 (And.intro hbx hJ3))
    clear hs3 hJ3 hS3 hbx hSA hS5 hzA hy5 hR5 hc5 b5 hsz5 HY0 HNum q1 q2 q3 q4 q5 q6 q7 hmx
    simp only [noPanic]
    gi_wp2_with (refine ⟨trivial, (fun h => nomatch h), ?_⟩; gi_at_call 83; refine (callsIn_wide.2 HBk.out).mono ?_; rintro e' w6 ⟨rfl, rfl⟩)
    obtain ⟨q1, q2, q3, q4, q5, q6, q7⟩ := HB.out
    obtain ⟨hS3, hbx, hJ3⟩ := HS3.out
    have hz4 : (W3.alloc (.cells #[.slice A zs.length c] 30)).heap.size = W3.heap.size + 1 := by simp
    have hEach := backward_each W3.heap.size zs (.slice A zs.length c) X (W3.alloc (.cells #[.slice A zs.length c] 30)) (Boxed.new W3 30 (.slice A zs.length c)).cell (by omega) (fun hx => by have := q3 _ hx; omega) ((q7.spare hS3).spare (.alloc X W3 _)) hlen
    refine wp_each (gf := 97) (lb := #[.pointer (some ⟨W3.heap.size, 0, none⟩)]) rfl (enters_of Try.func97 (by kernel_rfl) rfl)
      hEach (fun q hx => by have := q3 q hx; omega) (Below.refl _ _) (fun _ => rfl)
      (fun pre V => J (Tm.pieces pre) V ∧ Boxed V W.heap.size 136 (.func (.yield l) #[] #[]) ∧ W.heap.size + 1 ≤ V.heap.size)
      (fun pre V V' ⟨k1, k2, k3⟩ hs => ⟨q1 _ V V' k1 (hs.more (fun q hq => by omega)), (hs.same _ (by omega) (by omega)).trans k2, Nat.le_trans k3 hs.size⟩)
      ⟨q1 _ W3 _ hJ3 (.alloc _ W3 _), hbx.alloc _, by omega⟩
      (fun x => { tmps := #[.func (.yield l) #[] #[], .pointer (some ⟨Bl, 0, none⟩), .pointer (some ⟨W.heap.size, 0, none⟩), undef, .string ⟨x.2.toArray⟩, .func (.yield l) #[] #[], .string ⟨(117 :: Tm.be8 0).toArray⟩, .bool true, .bool false, .slice A zs.length c, .func (.func 97) #[] #[.pointer (some ⟨W3.heap.size, 0, none⟩)], .int .i64 (x.1 : Int), .string ⟨x.2.toArray⟩, undef, undef, undef, undef, undef, undef, undef, undef, undef], defers := [] }) ?assign ?body ?done
    case assign =>
      intro m l' x V Kk hK
      gi_wp2
      exact hK
    case body =>
      rintro m l' pre x V hpre ⟨k1, k2, k3⟩
      have hcx := k2.cell
      have hp1 : Tm.pieces pre ++ [x.2] <+: Tm.pieces (Tm.back zs zs.length) := by
        refine List.IsPrefix.trans ?_ (Tm.pieces_prefix hpre)
        rw [Tm.pieces_snoc]
        exact ⟨[[112]], rfl⟩
      have hp2 : Tm.pieces pre ++ [x.2] ++ [[112]] <+: Tm.pieces (Tm.back zs zs.length) := by
        rw [← Tm.pieces_snoc]
        exact Tm.pieces_prefix hpre
      obtain ⟨fn, tmps, assign, body, hy5, hR5⟩ := q2 (m - 1) (Tm.pieces pre) x.2 V hp1 k1
      clear hEach hS3 hbx hJ3 HS3 HB HBk hcb
      gi_wp2
      refine ⟨(fun h => nomatch h), hR5.mono ?_⟩
      rintro e V3 ⟨rfl, hJ4, hs4⟩
      have k2' : Boxed V3 W.heap.size 136 (.func (.yield l) #[] #[]) := (hs4.same _ (by omega) (fun hx => by have := q3 _ hx; omega)).trans k2
      have hcx' := k2'.cell
      obtain ⟨fn2, tmps2, assign2, body2, hy6, hR6⟩ := q2 (m - 1) _ [112] V3 hp2 hJ4
      have hs4z := hs4.size
      clear hy5 hR5 hcx
      gi_wp2
      refine ⟨(fun h => nomatch h), hR6.mono ?_⟩
      rintro e V5 ⟨rfl, hJ6, hs6⟩
      have k2'' : Boxed V5 W.heap.size 136 (.func (.yield l) #[] #[]) := (hs6.same _ (by omega) (fun hx => by have := q3 _ hx; omega)).trans k2'
      have hs6z := hs6.size
      clear hy6 hR6 hcx'
      gi_wp2
      exact ⟨hs4.trans hs6, by rw [Tm.pieces_snoc]; exact hJ6, by omega⟩
    case done =>
      rintro D V hD ⟨k1, k2, k3⟩ hK
      have hfin := q1 _ V (V.putObj D (.deferred none)) k1 (.put V _ (by omega))
      gi_wp2
      refine ⟨by simp, .inl ⟨_, _, rfl, run_takeDeferred hK, ?_⟩⟩
      exact ⟨_, results_none rfl _ _ _, ⟨_, rfl⟩, hfin⟩

set_option maxHeartbeats 400000 in
theorem fromBehind_calls (v : Value) (A : Option Addr) (len c : Nat) (hv : v = .slice A len c) (w : World) :
    Calls Try.prog 69 #[v] w fun e w' => e = .returned (.func (.func 82) #[] #[.pointer (some ⟨w.heap.size, 0, none⟩)]) ∧ w.alloc (.cells #[v] 30) = w' := by
  subst hv
  go_enter Try.func69, Try.ntmps69
  go_wp2
  go_ret
  exact ⟨rfl, rfl⟩
theorem behind_each (Bl : Nat) (zs : List (List UInt8)) (v : Value) (X : Nat → Prop) (w : World) (hBc : w.cell? ⟨Bl, 0, none⟩ = some v) (hBl : Bl < w.heap.size) (hX : ∀ q, X q → q < w.heap.size) (hBX : ¬ X Bl) (hR : ReadsA X w v zs) (hlen : zs.length ≤ 1000000) :
    SeqEach Try.prog 82 #[.pointer (some ⟨Bl, 0, none⟩)] (fun x : List UInt8 => #[.string ⟨x.toArray⟩]) X (Tm.pieces (Tm.back zs zs.length)) w := by
  intro n l J W hW _ hJ hY h0
  exact behind1_in n l Bl zs v X J W hJ hY (fun q hx => Nat.lt_of_lt_of_le (hX q hx) hW.size) ((hW.cell (p := ⟨Bl, 0, none⟩) hBl).trans hBc) (Nat.lt_of_lt_of_le hBl hW.size) hBX (hR.spare (.of_below hW)) hlen h0

end Go.Proofs.Ytckmpbmlneionaa
