/- A tree is read: the function value that reads one, by what is left of the text. -/
import Derived.Test.YtlpabhgfmkilnaaTrNext
namespace Go.Proofs.Ytlpabhgfmkilnaa.L13
open Go.ChangeShapes Go.WideShapes Go.ChangeAt Go.RowKit Go.Deep

attribute [local go_sem] store_func13
def OneOut (B : Nat) (w : World) (r : Option (Tr × List Nat × List UInt8)) (e : Ending) (w' : World) : Prop :=
  Fr (RdO B) w w' ∧ (∀ t s' y, r = some (t, s', y) → RdSt B w' y s' ∧ ∃ a F, e = .returned (.pointer (some ⟨a, 0, none⟩)) ∧ TreeAt w' t a F ∧ F.Nodup ∧ ∀ q ∈ F, w.heap.size ≤ q) ∧
    (r = none → e = .returned (.pointer none) ∧ ∃ y s', RdSt B w' y s')
theorem OneOut.no {B : Nat} {w w' : World} {y : List UInt8} {s : List Nat} (hf : Fr (RdO B) w w') (h : RdSt B w' y s) : OneOut B w none (.returned (.pointer none)) w' :=
  ⟨hf, (fun _ _ _ e => nomatch e), fun _ => ⟨rfl, y, s, h⟩⟩
theorem OneOut.yes {B : Nat} {w w' : World} {y : List UInt8} {s : List Nat} {t : Tr} {a : Nat} {F : List Nat} (hf : Fr (RdO B) w w') (h : RdSt B w' y s) (ht : TreeAt w' t a F) (hn : F.Nodup) (hF : ∀ q ∈ F, w.heap.size ≤ q) : OneOut B w (some (t, s, y)) (.returned (.pointer (some ⟨a, 0, none⟩))) w' :=
  ⟨hf, fun t' s' y' e => by cases e; exact ⟨h, a, F, rfl, ht, hn, hF⟩, fun e => by cases e⟩

set_option maxHeartbeats 1000000 in
theorem one_end {B : Nat} {w : World} {s : List Nat} (h : RdSt B w [] s) : Calls Try.prog 40 #[.pointer (some ⟨B + 2, 0, none⟩), .pointer (some ⟨B + 1, 0, none⟩), .pointer (some ⟨B + 3, 0, none⟩)] w (OneOut B w none) := by
  have hN := next_none h
  have c2 : w.cell? ⟨B + 2, 0, none⟩ = some (.func (.func 39) #[] #[.pointer (some ⟨B, 0, none⟩)]) := by rw [cells_of h.next]; rfl
  have HF := Lib.hid (OneOut.no (Fr.refl (RdO B) w) h)
  clear h
  go_enter Try.func40, Try.ntmps40
  go_wp2_with (first
    | (go_at_call 39; refine hN.mono ?_; rintro e w1 ⟨rfl, rfl⟩)
    | (go_at_call 41; refine (isProc_calls _ _).mono ?_; rintro e w1 ⟨rfl, rfl⟩))
  go_ret
  exact HF.out
set_option maxHeartbeats 1000000 in
/-- A byte that begins no tree here. -/
theorem one_no {B : Nat} {w : World} {b : UInt8} {x : List UInt8} {s : List Nat} (h : RdSt B w (b :: x) s) (hx : x.length ≤ 100) (h40 : b ≠ 40) (hd : ¬ (49 ≤ b.toNat ∧ b.toNat ≤ 56)) : Calls Try.prog 40 #[.pointer (some ⟨B + 2, 0, none⟩), .pointer (some ⟨B + 1, 0, none⟩), .pointer (some ⟨B + 3, 0, none⟩)] w (OneOut B w none) := by
  have hN := next_calls h hx
  have c2 : w.cell? ⟨B + 2, 0, none⟩ = some (.func (.func 39) #[] #[.pointer (some ⟨B, 0, none⟩)]) := by rw [cells_of h.next]; rfl
  have hlt : b.toNat < 256 := b.toNat_lt
  have g40 : ((b.toNat : Int) == 40) = false := u8_no (n := 40) (by omega) h40
  have gd : decide (1 ≤ (b.toNat : Int) - 48 ∧ (b.toNat : Int) - 48 ≤ 8) = false := decide_eq_false (fun g => hd (by omega))
  clear h h40 hd
  generalize b.toNat = n at *
  have HD := Lib.hid gd
  clear gd
  go_enter Try.func40, Try.ntmps40
  go_wp2_with (first
    | (go_at_call 39; refine hN.mono ?_; rintro e w1 ⟨rfl, hR, hF⟩; have HR := Lib.hid (And.intro hR hF); clear hR hF)
    | (go_at_call 41; refine (isProc_calls _ _).mono ?_; rintro e w2 ⟨rfl, rfl⟩; rw [HD.out]))
  go_ret
  exact OneOut.no HR.out.2 HR.out.1
set_option maxHeartbeats 1000000 in
/-- A process that was seen. -/
theorem one_twice {B : Nat} {w : World} {b : UInt8} {x : List UInt8} {s : List Nat} (h : RdSt B w (b :: x) s) (hx : x.length ≤ 100) (m : Nat) (hm : b.toNat = m + 48) (h1 : 1 ≤ m) (h8 : m ≤ 8) (hs : m ∈ s) : Calls Try.prog 40 #[.pointer (some ⟨B + 2, 0, none⟩), .pointer (some ⟨B + 1, 0, none⟩), .pointer (some ⟨B + 3, 0, none⟩)] w (OneOut B w none) := by
  have hN := next_calls h hx
  have c2 : w.cell? ⟨B + 2, 0, none⟩ = some (.func (.func 39) #[] #[.pointer (some ⟨B, 0, none⟩)]) := by rw [cells_of h.next]; rfl
  have g40 : ((b.toNat : Int) == 40) = false := by rw [beq_eq_false_iff_ne]; omega
  have gp : (b.toNat : Int) - 48 = (m : Int) := by omega
  have gd : decide (1 ≤ (m : Int) ∧ (m : Int) ≤ 8) = true := decide_eq_true (by omega)
  have HM := Lib.hid (And.intro hs (show m < 9 by omega))
  have HD := Lib.hid gd
  clear h gd hs hm
  generalize b.toNat = n at *
  go_enter Try.func40, Try.ntmps40
  go_wp2_with (first
    | (go_at_call 39; refine hN.mono ?_; rintro e w1 ⟨rfl, hR, hF⟩; have c3 : w1.cell? ⟨B + 1, m, none⟩ = some (.bool true) := (by rw [cells_of hR.seen, seen_get _ _ HM.out.2, decide_eq_true HM.out.1]); have HR := Lib.hid (And.intro hR hF); clear hR hF)
    | (go_at_call 41; refine (isProc_calls _ _).mono ?_; rintro e w2 ⟨rfl, rfl⟩; rw [HD.out]))
  go_ret
  exact OneOut.no HR.out.2 HR.out.1
theorem tree_leaf_new (V : World) (m : Nat) (h : 1 ≤ m ∧ m ≤ 8) : TreeAt (V.alloc (.cells #[.int .i64 m, .pointer none, .pointer none] 71)) (.leaf m) V.heap.size [V.heap.size] := ⟨World.alloc_heap_new _ _, h, rfl⟩
set_option maxHeartbeats 1000000 in
/-- A process. -/
theorem one_leaf {B : Nat} {w : World} {b : UInt8} {x : List UInt8} {s : List Nat} (h : RdSt B w (b :: x) s) (hx : x.length ≤ 100) (m : Nat) (hm : b.toNat = m + 48) (h1 : 1 ≤ m) (h8 : m ≤ 8) (hs : m ∉ s) : Calls Try.prog 40 #[.pointer (some ⟨B + 2, 0, none⟩), .pointer (some ⟨B + 1, 0, none⟩), .pointer (some ⟨B + 3, 0, none⟩)] w (OneOut B w (some (.leaf m, m :: s, x))) := by
  have hN := next_calls h hx
  have c2 : w.cell? ⟨B + 2, 0, none⟩ = some (.func (.func 39) #[] #[.pointer (some ⟨B, 0, none⟩)]) := by rw [cells_of h.next]; rfl
  have gp : (b.toNat : Int) - 48 = (m : Int) := by omega
  have gd : decide (1 ≤ (m : Int) ∧ (m : Int) ≤ 8) = true := decide_eq_true (by omega)
  have HM := Lib.hid (And.intro hs (show m < 9 by omega))
  have HD := Lib.hid gd
  have HP := Lib.hid (And.intro h1 h8)
  clear h gd hs hm
  generalize b.toNat = n at *
  go_enter Try.func40, Try.ntmps40
  go_wp2_with (first
    | (go_at_call 39; refine hN.mono ?_; rintro e w1 ⟨rfl, hR, hF⟩; have c3 : w1.cell? ⟨B + 1, m, none⟩ = some (.bool false) := (by rw [cells_of hR.seen, seen_get _ _ HM.out.2, decide_eq_false HM.out.1]); have f3 := frozen_of hR.seen m; have HR := Lib.hid (And.intro hR hF); clear hR hF)
    | (go_at_call 41; refine (isProc_calls _ _).mono ?_; rintro e w2 ⟨rfl, rfl⟩; rw [HD.out]))
  go_ret
  have b1 : Below (w2.setCell ⟨B + 1, m, none⟩ (.bool true)).heap.size (w2.setCell ⟨B + 1, m, none⟩ (.bool true)) ((w2.setCell ⟨B + 1, m, none⟩ (.bool true)).alloc (.cells #[.int .i64 m, .pointer none, .pointer none] 71)) := (Below.refl _ _).alloc (Nat.le_refl _) _
  have ht := tree_leaf_new (w2.setCell ⟨B + 1, m, none⟩ (.bool true)) m HP.out
  rw [World.size_setCell] at ht
  exact OneOut.yes ((HR.out.2.set ⟨B + 1, m, none⟩ (.bool true) (.inr rfl)).then b1) ((HR.out.1.mark m).later b1) ht (by simp) (fun q hq => by rw [List.mem_singleton.1 hq]; exact HR.out.2.size)
theorem parse_open (f : Nat) (s : List Nat) (x : List UInt8) : parse (f + 1) s (40 :: x) = match parse f s x with
      | none => none
      | some (l, s1, x1) => match parse f s1 x1 with
        | none => none
        | some (_, _, []) => none
        | some (r, s2, c :: x3) => if c = 41 then some (.node l r, s2, x3) else none := by
  rw [parse, if_neg (fun h => absurd h.1 (by decide)), if_neg (by decide)]
  rfl
theorem tree_node_new {V : World} {l r : Tr} {b c : Nat} {F G : List Nat} (hl : TreeAt V l b F) (hr : TreeAt V r c G) : TreeAt (V.alloc (.cells #[.int .i64 0, .pointer (some ⟨b, 0, none⟩), .pointer (some ⟨c, 0, none⟩)] 71)) (.node l r) V.heap.size (V.heap.size :: (F ++ G)) := by
  have hb : Below V.heap.size V (V.alloc (.cells #[.int .i64 0, .pointer (some ⟨b, 0, none⟩), .pointer (some ⟨c, 0, none⟩)] 71)) := (Below.refl _ _).alloc (Nat.le_refl _) _
  exact ⟨b, c, F, G, World.alloc_heap_new _ _, hl.later hb, hr.later hb, rfl⟩
set_option maxHeartbeats 4000000 in
theorem one_open {B : Nat} {w : World} {x : List UInt8} {s : List Nat} {f X : Nat} (h : RdSt B w (40 :: x) s) (hx : x.length ≤ X) (hX : X ≤ 100)
    (ih : ∀ (y : List UInt8) (s' : List Nat) (V : World), y.length ≤ X → RdSt B V y s' → Calls Try.prog 40 #[.pointer (some ⟨B + 2, 0, none⟩), .pointer (some ⟨B + 1, 0, none⟩), .pointer (some ⟨B + 3, 0, none⟩)] V (OneOut B V (parse f s' y))) :
    Calls Try.prog 40 #[.pointer (some ⟨B + 2, 0, none⟩), .pointer (some ⟨B + 1, 0, none⟩), .pointer (some ⟨B + 3, 0, none⟩)] w (OneOut B w (parse (f + 1) s (40 :: x))) := by
  have hN := next_calls h (by omega)
  rw [show (40 : UInt8).toNat = 40 from rfl] at hN
  have c2 : w.cell? ⟨B + 2, 0, none⟩ = some (.func (.func 39) #[] #[.pointer (some ⟨B, 0, none⟩)]) := by rw [cells_of h.next]; rfl
  clear h
  rw [parse_open]
  have HC : Hid (∀ (V : World) (y : List UInt8) (s' : List Nat), RdSt B V y s' → V.cell? ⟨B + 2, 0, none⟩ = some (.func (.func 39) #[] #[.pointer (some ⟨B, 0, none⟩)]) ∧ V.cell? ⟨B + 3, 0, none⟩ = some (.func (.func 40) #[] #[.pointer (some ⟨B + 2, 0, none⟩), .pointer (some ⟨B + 1, 0, none⟩), .pointer (some ⟨B + 3, 0, none⟩)])) :=
    fun V y s' g => ⟨by rw [cells_of g.next]; rfl, by rw [cells_of g.one]; rfl⟩
  have IH := Lib.hid ih
  clear ih
  cases h1 : parse f s x with
  | none =>
    have H1 := Lib.hid h1
    clear h1
    go_enter Try.func40, Try.ntmps40
    go_wp2_with (first
      | (go_at_call 39; refine hN.mono ?_; rintro e w1 ⟨rfl, hR, hF⟩; obtain ⟨_, c3⟩ := HC.out _ _ _ hR; have hI := IH.out x s w1 hx hR; rw [H1.out] at hI; have HR := Lib.hid hF; clear hR hF)
      | (go_at_call 41; refine (isProc_calls _ _).mono ?_; rintro e w2 ⟨rfl, rfl⟩)
      | (go_at_call 40; refine hI.mono ?_; rintro e w3 ⟨hF3, _, hn⟩; obtain ⟨rfl, y, s', hR3⟩ := hn rfl; have H3 := Lib.hid (And.intro hF3 hR3); clear hF3 hn hR3))
    go_ret
    exact OneOut.no (HR.out.trans H3.out.1) H3.out.2
  | some v =>
    obtain ⟨l, s1, x1⟩ := v
    have hx1 : x1.length ≤ X := by
      have := (parse_sound _ _ _ _ _ _ h1).1
      rw [this, List.length_append] at hx
      omega
    dsimp only
    cases h2 : parse f s1 x1 with
    | none =>
      have H1 := Lib.hid (And.intro h1 h2)
      clear h1 h2
      go_enter Try.func40, Try.ntmps40
      go_wp2_with (first
        | (go_at_call 39; refine hN.mono ?_; rintro e w1 ⟨rfl, hR, hF⟩; obtain ⟨_, c3⟩ := HC.out _ _ _ hR; have hI := IH.out x s w1 hx hR; rw [H1.out.1] at hI; have HR := Lib.hid hF; clear hR hF)
        | (go_at_call 41; refine (isProc_calls _ _).mono ?_; rintro e w2 ⟨rfl, rfl⟩))
      refine hI.mono ?_
      rintro e w3 ⟨hF3, hs, _⟩
      obtain ⟨hR3, a, F, rfl, _⟩ := hs _ _ _ rfl
      obtain ⟨_, c4⟩ := HC.out _ _ _ hR3
      have hJ := IH.out x1 s1 w3 hx1 hR3
      rw [H1.out.2] at hJ
      have H3 := Lib.hid hF3
      clear hF3 hs hR3 hI
      go_wp2_with fail
      refine hJ.mono ?_
      rintro e w4 ⟨hF4, _, hn⟩
      obtain ⟨rfl, y, s', hR4⟩ := hn rfl
      have H4 := Lib.hid (And.intro hF4 hR4)
      clear hF4 hn hR4 hJ
      go_wp2
      go_ret
      exact OneOut.no ((HR.out.trans H3.out).trans H4.out.1) H4.out.2
    | some v =>
      obtain ⟨r, s2, x2⟩ := v
      have hx2 : x2.length ≤ 100 := by
        have := (parse_sound _ _ _ _ _ _ h2).1
        rw [this, List.length_append] at hx1
        omega
      have H1 := Lib.hid (And.intro h1 h2)
      clear h1 h2
      have hy : Hid (∀ (w1 w3 : World) (a : Nat) (F : List Nat), Fr (RdO B) w w1 → Fr (RdO B) w1 w3 → TreeAt w3 l a F → F.Nodup → (∀ q ∈ F, w1.heap.size ≤ q) → B + 4 ≤ w1.heap.size → ∀ (w4 : World) (c : Nat) (G : List Nat), Fr (RdO B) w3 w4 → TreeAt w4 r c G → G.Nodup → (∀ q ∈ G, w3.heap.size ≤ q) →
          ∀ (w5 : World) (y : List UInt8), Fr (RdO B) w4 w5 → RdSt B w5 y s2 → OneOut B w (some (.node l r, s2, y)) (.returned (.pointer (some ⟨w5.heap.size, 0, none⟩))) (w5.alloc (.cells #[.int .i64 0, .pointer (some ⟨a, 0, none⟩), .pointer (some ⟨c, 0, none⟩)] 71))) := by
        intro w1 w3 a F f1 f3 tl nl gl hsz w4 c G f4 tr nr gr w5 y f5 hR
        have b5 : Below w5.heap.size w5 (w5.alloc (.cells #[.int .i64 0, .pointer (some ⟨a, 0, none⟩), .pointer (some ⟨c, 0, none⟩)] 71)) := (Below.refl _ _).alloc (Nat.le_refl _) _
        have no : ∀ q ∈ F, ¬ RdO B q := fun q hq e => by have := gl q hq; unfold RdO at e; omega
        have no' : ∀ q ∈ G, ¬ RdO B q := fun q hq e => by have := gr q hq; have := f3.size; unfold RdO at e; omega
        have t1 := (tl.fr f4 no).fr f5 no
        have t2 := tr.fr f5 no'
        refine OneOut.yes ((((f1.trans f3).trans f4).trans f5).then b5) (hR.later b5) (tree_node_new t1 t2) ?_ ?_
        · refine List.nodup_cons.2 ⟨fun hq => ?_, List.nodup_append.2 ⟨nl, nr, fun p hp q hq e => ?_⟩⟩
          · rcases List.mem_append.1 hq with hq | hq
            · exact absurd (t1.lt _ hq) (by omega)
            · exact absurd (t2.lt _ hq) (by omega)
          · subst e
            have := tl.lt p hp
            have := gr p hq
            omega
        · intro q hq
          have e1 := f1.size
          have e3 := f3.size
          have e4 := f4.size
          have e5 := f5.size
          rcases List.mem_cons.1 hq with rfl | hq
          · omega
          · rcases List.mem_append.1 hq with hq | hq
            · have := gl q hq; omega
            · have := gr q hq; omega
      cases x2 with
      | nil =>
        clear hy
        go_enter Try.func40, Try.ntmps40
        go_wp2_with (first
          | (go_at_call 39; refine hN.mono ?_; rintro e w1 ⟨rfl, hR, hF⟩; obtain ⟨_, c3⟩ := HC.out _ _ _ hR; have hI := IH.out x s w1 hx hR; rw [H1.out.1] at hI; have HR := Lib.hid hF; clear hR hF)
          | (go_at_call 41; refine (isProc_calls _ _).mono ?_; rintro e w2 ⟨rfl, rfl⟩))
        refine hI.mono ?_
        rintro e w3 ⟨hF3, hs, _⟩
        obtain ⟨hR3, a, F, rfl, _⟩ := hs _ _ _ rfl
        obtain ⟨_, c4⟩ := HC.out _ _ _ hR3
        have hJ := IH.out x1 s1 w3 hx1 hR3
        rw [H1.out.2] at hJ
        have H3 := Lib.hid hF3
        clear hF3 hs hR3 hI
        go_wp2_with fail
        refine hJ.mono ?_
        rintro e w4 ⟨hF4, hs, _⟩
        obtain ⟨hR4, c, G, rfl, _⟩ := hs _ _ _ rfl
        obtain ⟨c5, _⟩ := HC.out _ _ _ hR4
        have hM := next_none hR4
        have H4 := Lib.hid (And.intro hF4 hR4)
        clear hF4 hs hR4 hJ hN
        go_wp2_with (go_at_call 39; refine hM.mono ?_; rintro e w5 ⟨rfl, rfl⟩)
        go_ret
        exact OneOut.no ((HR.out.trans H3.out).trans H4.out.1) H4.out.2
      | cons b x3 =>
        simp only [List.length_cons] at hx2
        have hb : b.toNat < 256 := b.toNat_lt
        by_cases e41 : b = 41
        · subst e41
          show Calls Try.prog 40 #[.pointer (some ⟨B + 2, 0, none⟩), .pointer (some ⟨B + 1, 0, none⟩), .pointer (some ⟨B + 3, 0, none⟩)] w (OneOut B w (some (.node l r, s2, x3)))
          go_enter Try.func40, Try.ntmps40
          go_wp2_with (first
            | (go_at_call 39; refine hN.mono ?_; rintro e w1 ⟨rfl, hR, hF⟩; obtain ⟨_, c3⟩ := HC.out _ _ _ hR; have hI := IH.out x s w1 hx hR; rw [H1.out.1] at hI; have HR := Lib.hid (And.intro hF hR.lt); clear hR hF)
            | (go_at_call 41; refine (isProc_calls _ _).mono ?_; rintro e w2 ⟨rfl, rfl⟩))
          refine hI.mono ?_
          rintro e w3 ⟨hF3, hs, _⟩
          obtain ⟨hR3, a, F, rfl, tl, nl, gl⟩ := hs _ _ _ rfl
          obtain ⟨_, c4⟩ := HC.out _ _ _ hR3
          have hJ := IH.out x1 s1 w3 hx1 hR3
          rw [H1.out.2] at hJ
          have H3 := Lib.hid (And.intro hF3 (And.intro tl (And.intro nl gl)))
          clear hF3 hs hR3 hI tl nl gl
          go_wp2_with fail
          refine hJ.mono ?_
          rintro e w4 ⟨hF4, hs, _⟩
          obtain ⟨hR4, c, G, rfl, tr, nr, gr⟩ := hs _ _ _ rfl
          obtain ⟨c5, _⟩ := HC.out _ _ _ hR4
          have hM := next_calls hR4 (by omega)
          have H4 := Lib.hid (And.intro (And.intro hF4 hR4) (And.intro tr (And.intro nr gr)))
          clear hF4 hs hR4 hJ hN tr nr gr
          rw [show (41 : UInt8).toNat = 41 from rfl] at hM
          go_wp2_with (first
            | (go_at_call 39; refine hM.mono ?_; rintro e w5 ⟨rfl, hR5, hF5⟩; have H5 := Lib.hid (hy.out _ _ _ _ HR.out.1 H3.out.1 H3.out.2.1 H3.out.2.2.1 H3.out.2.2.2 HR.out.2 _ _ _ H4.out.1.1 H4.out.2.1 H4.out.2.2.1 H4.out.2.2.2 _ _ hF5 hR5); clear hR5 hF5)
            | (go_at_call 42; refine (above_calls _ _ _).mono ?_; rintro e w6 ⟨rfl, rfl⟩))
          go_ret
          exact H5.out
        · have g41 : ((b.toNat : Int) == 41) = false := u8_no (n := 41) (by omega) e41
          show Calls Try.prog 40 #[.pointer (some ⟨B + 2, 0, none⟩), .pointer (some ⟨B + 1, 0, none⟩), .pointer (some ⟨B + 3, 0, none⟩)] w (OneOut B w (if b = 41 then some (.node l r, s2, x3) else none))
          rw [if_neg e41]
          clear hy e41
          go_enter Try.func40, Try.ntmps40
          go_wp2_with (first
            | (go_at_call 39; refine hN.mono ?_; rintro e w1 ⟨rfl, hR, hF⟩; obtain ⟨_, c3⟩ := HC.out _ _ _ hR; have hI := IH.out x s w1 hx hR; rw [H1.out.1] at hI; have HR := Lib.hid (And.intro hF hR.lt); clear hR hF)
            | (go_at_call 41; refine (isProc_calls _ _).mono ?_; rintro e w2 ⟨rfl, rfl⟩))
          refine hI.mono ?_
          rintro e w3 ⟨hF3, hs, _⟩
          obtain ⟨hR3, a, F, rfl, tl, nl, gl⟩ := hs _ _ _ rfl
          obtain ⟨_, c4⟩ := HC.out _ _ _ hR3
          have hJ := IH.out x1 s1 w3 hx1 hR3
          rw [H1.out.2] at hJ
          have H3 := Lib.hid (And.intro hF3 (And.intro tl (And.intro nl gl)))
          clear hF3 hs hR3 hI tl nl gl
          go_wp2_with fail
          refine hJ.mono ?_
          rintro e w4 ⟨hF4, hs, _⟩
          obtain ⟨hR4, c, G, rfl, tr, nr, gr⟩ := hs _ _ _ rfl
          obtain ⟨c5, _⟩ := HC.out _ _ _ hR4
          have hM := next_calls hR4 (by omega)
          have H4 := Lib.hid (And.intro (And.intro hF4 hR4) (And.intro tr (And.intro nr gr)))
          clear hF4 hs hR4 hJ hN tr nr gr
          have hM' := Lib.hid hM
          clear hM
          go_wp2_with (go_at_call 39; refine hM'.out.mono ?_; rintro e w5 ⟨rfl, hR5, hF5⟩; have H5 := Lib.hid (And.intro hF5 hR5); clear hR5 hF5)
          go_ret
          exact OneOut.no (((HR.out.1.trans H3.out.1).trans H4.out.1.1).trans H5.out.1) H5.out.2
theorem one_calls (B : Nat) : ∀ (f : Nat) (x : List UInt8) (s : List Nat) (w : World), x.length < f → x.length ≤ 100 → RdSt B w x s → Calls Try.prog 40 #[.pointer (some ⟨B + 2, 0, none⟩), .pointer (some ⟨B + 1, 0, none⟩), .pointer (some ⟨B + 3, 0, none⟩)] w (OneOut B w (parse f s x)) := by
  intro f
  induction f with
  | zero => intro x s w hx; omega
  | succ f ih =>
    intro x s w hx h100 h
    cases x with
    | nil => exact one_end h
    | cons b x =>
      simp only [List.length_cons] at hx h100
      by_cases hd : 49 ≤ b.toNat ∧ b.toNat ≤ 56
      · by_cases hs : b.toNat - 48 ∈ s
        · have h40 : b ≠ 40 := fun e => by subst e; exact absurd hd.1 (by decide)
          rw [parse, if_neg (fun g => g.2.2 hs), if_pos h40]
          exact one_twice h (by omega) (b.toNat - 48) (by omega) (by omega) (by omega) hs
        · rw [parse, if_pos ⟨hd.1, hd.2, hs⟩]
          exact one_leaf h (by omega) (b.toNat - 48) (by omega) (by omega) (by omega) hs
      · by_cases h40 : b = 40
        · subst h40
          exact one_open h (X := x.length) (Nat.le_refl _) (by omega) (fun y s' V hy hR => ih y s' V (by omega) (by omega) hR)
        · rw [parse, if_neg (fun g => hd ⟨g.1, g.2.1⟩), if_pos h40]
          exact one_no h (by omega) h40 hd
end Go.Proofs.Ytlpabhgfmkilnaa.L13
