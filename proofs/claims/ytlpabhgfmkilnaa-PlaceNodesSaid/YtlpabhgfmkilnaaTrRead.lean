/- Contract of read: the tree that a text is, in memory. -/
import Derived.Test.YtlpabhgfmkilnaaTrOne
namespace Go.Proofs.Ytlpabhgfmkilnaa.L13
open Go.ChangeShapes Go.WideShapes Go.ChangeAt Go.RowKit Go.Deep

attribute [local go_sem] store_func13
def ReadOut (w : World) (r : Option Tr) (e : Ending) (w' : World) : Prop :=
  Below w.heap.size w w' ∧ (∀ t, r = some t → ∃ a F, e = .returned (.pointer (some ⟨a, 0, none⟩)) ∧ TreeAt w' t a F ∧ F.Nodup ∧ ∀ q ∈ F, w.heap.size ≤ q) ∧ (r = none → e = .returned (.pointer none))
def rdWorld (w : World) (x : List UInt8) : World :=
  (((w.alloc (.cells #[.string ⟨x.toArray⟩] 23)).alloc (.cells #[.bool false, .bool false, .bool false, .bool false, .bool false, .bool false, .bool false, .bool false, .bool false] 66)).alloc (.cells #[.func (.func 39) #[] #[.pointer (some ⟨w.heap.size, 0, none⟩)]] 67)).alloc
    (.cells #[.func (.func 40) #[] #[.pointer (some ⟨w.heap.size + 2, 0, none⟩), .pointer (some ⟨w.heap.size + 1, 0, none⟩), .pointer (some ⟨w.heap.size + 3, 0, none⟩)]] 68)
theorem rdWorld_st (w : World) (x : List UInt8) : RdSt w.heap.size (rdWorld w x) x [] ∧ Below w.heap.size w (rdWorld w x) := by
  have hold : ∀ (V : World) (o : Obj) (q : Nat), q < V.heap.size → (V.alloc o).heap[q]? = V.heap[q]? := fun V o q h => Below.heap_alloc V o q h
  refine ⟨⟨?_, ?_, ?_, ?_⟩, ?_⟩
  · unfold rdWorld
    rw [hold _ _ _ (by simp; omega), hold _ _ _ (by simp; omega), hold _ _ _ (by simp), World.alloc_heap_new]
  · unfold rdWorld
    rw [hold _ _ _ (by simp), hold _ _ _ (by simp)]
    have := World.alloc_heap_new (w.alloc (.cells #[.string ⟨x.toArray⟩] 23)) (.cells #[.bool false, .bool false, .bool false, .bool false, .bool false, .bool false, .bool false, .bool false, .bool false] 66)
    rw [World.size_alloc] at this
    rw [this]
    rfl
  · unfold rdWorld
    rw [hold _ _ _ (by simp)]
    have := World.alloc_heap_new ((w.alloc (.cells #[.string ⟨x.toArray⟩] 23)).alloc (.cells #[.bool false, .bool false, .bool false, .bool false, .bool false, .bool false, .bool false, .bool false, .bool false] 66)) (.cells #[.func (.func 39) #[] #[.pointer (some ⟨w.heap.size, 0, none⟩)]] 67)
    rw [World.size_alloc, World.size_alloc] at this
    exact this
  · unfold rdWorld
    have := World.alloc_heap_new (((w.alloc (.cells #[.string ⟨x.toArray⟩] 23)).alloc (.cells #[.bool false, .bool false, .bool false, .bool false, .bool false, .bool false, .bool false, .bool false, .bool false] 66)).alloc (.cells #[.func (.func 39) #[] #[.pointer (some ⟨w.heap.size, 0, none⟩)]] 67)) (.cells #[.func (.func 40) #[] #[.pointer (some ⟨w.heap.size + 2, 0, none⟩), .pointer (some ⟨w.heap.size + 1, 0, none⟩), .pointer (some ⟨w.heap.size + 3, 0, none⟩)]] 68)
    rw [World.size_alloc, World.size_alloc, World.size_alloc] at this
    exact this
  · exact ((((Below.refl _ _).alloc (Nat.le_refl _) _).alloc (by simp) _).alloc (by simp; omega) _).alloc (by simp; omega) _

set_option maxHeartbeats 2000000 in
theorem read_calls (x : List UInt8) (w : World) : Calls Try.prog 29 #[.string ⟨x.toArray⟩] w (ReadOut w (readT x)) := by
  have hsz : (⟨x.toArray⟩ : ByteArray).size = x.length := rfl
  by_cases hx : 22 < x.length
  · have hr : readT x = none := by unfold readT; rw [if_pos hx]
    rw [hr]
    have hx' : (22 : Int) < (x.length : Int) := by omega
    clear hr
    go_enter Try.func29, Try.ntmps29
    go_wp2
    go_ret
    exact ⟨Below.refl _ _, (fun t e => nomatch e), fun _ => rfl⟩
  · obtain ⟨hR, hb⟩ := rdWorld_st w x
    have hC := one_calls w.heap.size 23 x [] _ (by omega) (by omega) hR
    have hx' : ¬ (22 : Int) < (x.length : Int) := by omega
    have c1 : (rdWorld w x).cell? ⟨w.heap.size + 3, 0, none⟩ = some (.func (.func 40) #[] #[.pointer (some ⟨w.heap.size + 2, 0, none⟩), .pointer (some ⟨w.heap.size + 1, 0, none⟩), .pointer (some ⟨w.heap.size + 3, 0, none⟩)]) := by rw [cells_of hR.one]; rfl
    have HX := Lib.hid hx
    have HB := Lib.hid (And.intro hb hR.lt)
    clear hR hb hx
    have hc0 : ∀ (V : World) (y : List UInt8) (s : List Nat), RdSt w.heap.size V y s → V.cell? ⟨w.heap.size, 0, none⟩ = some (.string ⟨y.toArray⟩) := fun V y s g => by rw [cells_of g.rest]; rfl
    have H0 := Lib.hid hc0
    clear hc0
    have hbl : ∀ V, Fr (RdO w.heap.size) (rdWorld w x) V → Below w.heap.size w V := fun V f => HB.out.1.trans (f.below (fun q e => by unfold RdO at e; omega) (by have := HB.out.2; omega))
    have HL := Lib.hid hbl
    clear hbl
    have HZ := Lib.hid (show w.heap.size ≤ (rdWorld w x).heap.size by have := HB.out.2; omega)
    clear HB
    cases hp : parse 23 [] x with
    | none =>
      have hr : readT x = none := by unfold readT; rw [if_neg HX.out, hp]
      rw [hr]
      rw [hp] at hC
      have HP := Lib.hid hp
      clear hp hr
      unfold rdWorld at hC c1 HL HZ
      go_enter Try.func29, Try.ntmps29
      go_wp2_with fail
      refine hC.mono ?_
      rintro e w1 ⟨hF, _, hn⟩
      obtain ⟨rfl, y, s', hR⟩ := hn rfl
      have hc := H0.out _ _ _ hR
      have H1 := Lib.hid (HL.out _ hF)
      clear hF hn hR hC c1 HL HZ
      cases y with
      | nil =>
        go_wp2
        go_ret
        exact ⟨H1.out, (fun t e => nomatch e), fun _ => rfl⟩
      | cons b y =>
        go_wp2
        go_ret
        exact ⟨H1.out, (fun t e => nomatch e), fun _ => rfl⟩
    | some v =>
      obtain ⟨t, s', y⟩ := v
      rw [hp] at hC
      cases y with
      | nil =>
        have hr : readT x = some t := by unfold readT; rw [if_neg HX.out, hp]
        rw [hr]
        have HP := Lib.hid hp
        clear hp hr
        unfold rdWorld at hC c1 HL HZ
        go_enter Try.func29, Try.ntmps29
        go_wp2_with fail
        refine hC.mono ?_
        rintro e w1 ⟨hF, hs, _⟩
        obtain ⟨hR, a, F, rfl, ht, hn, hq⟩ := hs _ _ _ rfl
        have hc := H0.out _ _ _ hR
        have H1 := Lib.hid (And.intro (HL.out _ hF) (And.intro ht (And.intro hn (fun q h => Nat.le_trans HZ.out (hq q h)))))
        clear hF hs hR hC c1 HL HZ ht hn hq
        go_wp2
        go_ret
        exact ⟨H1.out.1, fun t' e => by cases e; exact ⟨a, F, rfl, H1.out.2.1, H1.out.2.2.1, H1.out.2.2.2⟩, fun e => nomatch e⟩
      | cons b y =>
        have hr : readT x = none := by unfold readT; rw [if_neg HX.out, hp]
        rw [hr]
        have HP := Lib.hid hp
        clear hp hr
        unfold rdWorld at hC c1 HL HZ
        go_enter Try.func29, Try.ntmps29
        go_wp2_with fail
        refine hC.mono ?_
        rintro e w1 ⟨hF, hs, _⟩
        obtain ⟨hR, a, F, rfl, _⟩ := hs _ _ _ rfl
        have hc := H0.out _ _ _ hR
        have H1 := Lib.hid (HL.out _ hF)
        clear hF hs hR hC c1 HL HZ
        go_wp2
        go_ret
        exact ⟨H1.out, (fun t e => nomatch e), fun _ => rfl⟩
end Go.Proofs.Ytlpabhgfmkilnaa.L13
