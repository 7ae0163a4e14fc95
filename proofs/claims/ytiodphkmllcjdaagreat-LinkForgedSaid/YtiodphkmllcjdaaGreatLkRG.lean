/- The document's own frame and New (gemotref7). The document's own Send (gemotref7). The document's own Again (gemotref7). The document's own waits (gemotref7): the place of what waits of a number. -/
import Derived.Test.YtiodphkmllcjdaaGreatLkD
import Derived.Test.YtiodphkmllcjdaaGreatR4G
import Derived.Test.YtiodphkmllcjdaaGreatRefG
import Derived.Deep.AppendLies
section
section
namespace Go.Proofs.YtiodphkmllcjdaaGreat.L7
open Go.ChangeShapes Go.WideShapes Go.ChangeAt Go.RowKit L6

theorem right_depth7 (p : Bytes) : (Tm.depthOf p == 0) = !Tm.right p := by
  unfold Tm.right
  cases h : (Tm.depthOf p == 0) with
  | true => simp at h; simp [h]
  | false => simp at h; simp; omega
theorem put_sign (a b : Bytes) : Tm.put [120] [a, b] = ofT [120] [a, b] := by
  unfold ofT
  have e : [a, b].any (fun p => !Tm.right p) = [a, b].any (fun p => Tm.depthOf p == 0) := by
    congr 1
    funext p
    exact (right_depth7 p).symm
  rw [e]
  by_cases h : [a, b].any (fun p => Tm.depthOf p == 0) = true
  · rw [if_pos h]
    unfold Tm.put
    rw [if_pos h]
  · rw [if_neg h]
    refine Tm.put_made (fun p hp h0 => h (List.any_eq_true.2 ⟨p, hp, by simp [h0]⟩)) ?_ (by simp) (fun h => absurd h (by simp)) (fun h => absurd h (by simp))
    have := Tm.begin_sign a b
    simpa using this
theorem texts_two {W : World} {g : Nat} {a b : Bytes} {t : TypeId} (h : W.heap[g]? = some (.cells #[.string ⟨a.toArray⟩, .string ⟨b.toArray⟩] t (0, 0))) : Texts W g [a, b] := by
  intro j x hx
  match j, hx with
  | 0, hx => simp at hx; subst hx; simp only [World.cell?]; rw [h]; rfl
  | 1, hx => simp at hx; subst hx; simp only [World.cell?]; rw [h]; rfl
  | j + 2, hx => simp at hx

set_option maxRecDepth 100000 in
set_option maxHeartbeats 2000000 in
theorem frame7_calls {p q : Nat} (hp : 1 ≤ p) (hp8 : p ≤ 8) (hq8 : q ≤ 8) (kind num : Nat) (vt : Value) (ts : List Bytes) (w : World) (ht : RowA w vt ts) (hnil : ∀ n c, vt = .slice none n c → c = 0) (hl : ts.length ≤ 900) (hsm : (fmsg q kind num ts).pack.1.length ≤ 10000) :
    Calls Tryz.prog 43 #[.int .i64 p, .int .i64 q, .int .i64 kind, .int .i64 num, vt] w (Pair2 w (frameL p q kind num ts)) := by
  have b1 : Below w.heap.size w (w.alloc (.cells #[.int .i64 q] 3)) := (Below.refl _ w).alloc (Nat.le_refl _) _
  have hP := L4.pack4_calls (fmsg q kind num ts) (.slice (some ⟨w.heap.size, 0, none⟩) 1 1) vt (w.alloc (.cells #[.int .i64 q] 3))
    ⟨ints_one (World.alloc_heap_new w _) (by omega) (by omega), ht.below b1⟩ (fun n c e => by cases e) hnil hl
  have HPv := Lib.hid (fun W => refPrivate_calls p (by omega) (by omega) W)
  have hpr : (⟨#[105, UInt8.ofNat ((p : Int)).toNat]⟩ : ByteArray) = ⟨(privL p).toArray⟩ := rfl
  rw [hpr] at HPv
  have HOf : Hid (∀ (t : Bytes), t.length ≤ 10000 → ∀ W : World, Calls Tryz.prog 66 #[.string ⟨#[120]⟩, .slice (some ⟨W.heap.size, 0, none⟩) 2 2] (W.alloc (.cells #[.string ⟨(privL p).toArray⟩, .string ⟨t.toArray⟩] 9)) (Pair2 (W.alloc (.cells #[.string ⟨(privL p).toArray⟩, .string ⟨t.toArray⟩] 9)) (Tm.put [120] [privL p, t]))) := fun t ht W => by
    have := ROfm_calls [120] [privL p, t] W.heap.size 2 (W.alloc (.cells #[.string ⟨(privL p).toArray⟩, .string ⟨t.toArray⟩] 9)) (texts_two (World.alloc_heap_new W _)) (by simp) (by simp) (by intro z hz; simp at hz; rcases hz with rfl | rfl; simp [privL]; exact ht)
    rw [put_sign]
    refine this.mono ?_
    rintro e w' ⟨rfl, m, rfl⟩
    exact ⟨rfl, L5.below_drewN (Below.refl _ _) m⟩
  unfold frameL signL
  obtain ⟨⟨t, er⟩, hr⟩ : ∃ r, (fmsg q kind num ts).pack = r := ⟨_, rfl⟩
  rw [hr] at hP hsm ⊢
  have HP := Lib.hid hP
  have HB := Lib.hid b1
  unfold msgCells fmsg at HP
  generalize privL p = pv at *
  obtain ⟨vA, vn, vc, rfl⟩ : ∃ A n c, vt = .slice A n c := ⟨_, _, _, ht.reads.choose_spec.choose_spec.1⟩
  clear hP hr hpr ht b1 hp hp8 hq8 hl
  by_cases her : er = 0
  · subst her
    rw [if_pos rfl]
    have HOf := Lib.hid (HOf.out t hsm)
    show Calls _ _ _ _ (Pair2 w (Tm.put [120] [pv, t]))
    generalize Tm.put [120] [pv, t] = u at *
    clear hsm
    go_enter Tryz.func43, Tryz.ntmps43
    go_wp2_with fail
    refine HP.out.mono ?_
    rintro e w1 ⟨rfl, b1⟩
    have HB1 := Lib.hid (HB.out.trans (b1.mono HB.out.size))
    clear b1
    go_wp2_with fail
    refine (HPv.out _).mono ?_
    rintro e w2 ⟨rfl, b2⟩
    have HB2 := Lib.hid (HB1.out.trans (b2.mono HB1.out.size))
    have HOf := Lib.hid (HOf.out w2)
    clear b2
    go_wp2_with fail
    refine HOf.out.mono ?_
    rintro e w3 ⟨rfl, b3⟩
    have HB3 := Lib.hid ((HB2.out.alloc HB2.out.size _).trans (b3.mono (HB2.out.alloc HB2.out.size _).size))
    clear b3
    go_wp2
    go_ret2
    exact ⟨rfl, HB3.out⟩
  · rw [if_neg her]
    have hne : ((er : Int) != 0) = true := by simp; omega
    clear HOf HPv her hsm
    go_enter Tryz.func43, Tryz.ntmps43
    go_wp2_with fail
    refine HP.out.mono ?_
    rintro e w1 ⟨rfl, b1⟩
    have HB1 := Lib.hid (HB.out.trans (b1.mono HB.out.size))
    clear b1
    go_wp2
    go_ret2
    exact ⟨rfl, HB1.out⟩

/-- The document's end in memory. -/
def refCells (me peer sent taken : Nat) (vo vw : Value) : Array Value := #[.int .i64 me, .int .i64 peer, .int .i64 sent, .int .i64 taken, vo, vw]
def RefNewOut (w : World) (a b : Nat) (e : Ending) (w' : World) : Prop := e = .returned (.tuple #[.pointer (some ⟨w.heap.size, 0, none⟩), .int .i64 0]) ∧ w' = w.alloc (.cells (refCells a b 0 0 (.slice none 0 0) (.slice none 0 0)) 43)
set_option maxHeartbeats 1000000 in
theorem ref_new (a b : Nat) (ha : 1 ≤ a) (ha8 : a ≤ 8) (hb : 1 ≤ b) (hb8 : b ≤ 8) (hab : a ≠ b) (w : World) : Calls Tryz.prog 19 #[.int .i64 a, .int .i64 b] w (RefNewOut w a b) := by
  have h1 : ¬ (a : Int) < 1 := by omega
  have h2 : ¬ (8 : Int) < (a : Int) := by omega
  have h3 : ¬ (b : Int) < 1 := by omega
  have h4 : ¬ (8 : Int) < (b : Int) := by omega
  have h5 : ((a : Int) == (b : Int)) = false := by rw [beq_eq_false_iff_ne]; omega
  clear ha ha8 hb hb8 hab
  go_enter Tryz.func19, Tryz.ntmps19
  go_wp2
  go_ret2
  exact ⟨rfl, rfl⟩
set_option maxHeartbeats 1000000 in
theorem ref_new_no (me peer : Int) (h : ¬ (1 ≤ me ∧ me ≤ 8 ∧ 1 ≤ peer ∧ peer ≤ 8 ∧ me ≠ peer)) (w : World) : Calls Tryz.prog 19 #[.int .i64 me, .int .i64 peer] w (NewNo w) := by
  by_cases h1 : me < 1
  · clear h
    go_enter Tryz.func19, Tryz.ntmps19
    go_wp2
    go_ret2
    exact ⟨rfl, rfl⟩
  by_cases h2 : 8 < me
  · clear h
    go_enter Tryz.func19, Tryz.ntmps19
    go_wp2
    go_ret2
    exact ⟨rfl, rfl⟩
  by_cases h3 : peer < 1
  · clear h
    go_enter Tryz.func19, Tryz.ntmps19
    go_wp2
    go_ret2
    exact ⟨rfl, rfl⟩
  by_cases h4 : 8 < peer
  · clear h
    go_enter Tryz.func19, Tryz.ntmps19
    go_wp2
    go_ret2
    exact ⟨rfl, rfl⟩
  obtain rfl : me = peer := by omega
  clear h
  go_enter Tryz.func19, Tryz.ntmps19
  go_wp2
  go_ret2
  exact ⟨rfl, rfl⟩
end Go.Proofs.YtiodphkmllcjdaaGreat.L7
end
end

section
namespace Go.Proofs.YtiodphkmllcjdaaGreat.L7
open Go.ChangeShapes Go.WideShapes Go.ChangeAt Go.RowKit L6

structure RSt where
  me : Nat
  peer : Nat
  sent : Nat
  taken : Nat
  opens : List (Nat × Bytes)
  wait : List (Nat × Bytes)
def flatI (l : List (Nat × Bytes)) : List Value := l.flatMap fun i => [.int .i64 i.1, .string ⟨i.2.toArray⟩]
theorem flatI_snoc (l : List (Nat × Bytes)) (n : Nat) (b : Bytes) : flatI (l ++ [(n, b)]) = flatI l ++ [.int .i64 n, .string ⟨b.toArray⟩] := by simp [flatI]
theorem flatI_len (l : List (Nat × Bytes)) : (flatI l).length = l.length * 2 := by
  induction l with
  | nil => rfl
  | cons a l ih =>
    have : flatI (a :: l) = [.int .i64 a.1, .string ⟨a.2.toArray⟩] ++ flatI l := by simp [flatI]
    rw [this, List.length_append, ih]
    simp only [List.length_cons, List.length_nil]
    omega
structure RefAt (W : World) (B g : Nat) (r : RSt) (vo vw : Value) : Prop where
  own : W.heap[g]? = some (.cells (refCells r.me r.peer r.sent r.taken vo vw) 43 (0, 0))
  base : B ≤ g
  opens : W.ownsRow B 102 2 vo r.opens.length (flatI r.opens)
  wait : W.ownsRow B 102 2 vw r.wait.length (flatI r.wait)
  sep : ∀ q, vo.ownBlock = some q → vw.ownBlock ≠ some q
theorem RefAt.lt {W : World} {B g : Nat} {r : RSt} {vo vw : Value} (h : RefAt W B g r vo vw) : g < W.heap.size := (Array.getElem?_eq_some_iff.1 h.own).1
theorem RefAt.same {W W' : World} {B g : Nat} {r : RSt} {vo vw : Value} (h : RefAt W B g r vo vw) (hg : W'.heap[g]? = W.heap[g]?) (ho : ∀ q, vo.ownBlock = some q → W'.heap[q]? = W.heap[q]?) (hw : ∀ q, vw.ownBlock = some q → W'.heap[q]? = W.heap[q]?) : RefAt W' B g r vo vw :=
  ⟨hg.trans h.own, h.base, L5.own_same h.opens ho, L5.own_same h.wait hw, h.sep⟩
theorem RefAt.below {W W' : World} {B g : Nat} {r : RSt} {vo vw : Value} (h : RefAt W B g r vo vw) (hb : Below W.heap.size W W') : RefAt W' B g r vo vw :=
  h.same (hb.block _ h.lt) (fun q e => hb.block q (h.opens.lt q e).2) (fun q e => hb.block q (h.wait.lt q e).2)
theorem RefAt.cells {W : World} {B g : Nat} {r : RSt} {vo vw : Value} (h : RefAt W B g r vo vw) : W.cell? ⟨g, 0, none⟩ = some (.int .i64 r.me) ∧ W.cell? ⟨g, 1, none⟩ = some (.int .i64 r.peer) ∧ W.cell? ⟨g, 2, none⟩ = some (.int .i64 r.sent) ∧ W.cell? ⟨g, 3, none⟩ = some (.int .i64 r.taken) ∧ W.cell? ⟨g, 4, none⟩ = some vo ∧ W.cell? ⟨g, 5, none⟩ = some vw := by
  have e := h.own
  refine ⟨?_, ?_, ?_, ?_, ?_, ?_⟩ <;> (simp only [World.cell?]; rw [e]; rfl)
theorem RefAt.froze {W : World} {B g : Nat} {r : RSt} {vo vw : Value} (h : RefAt W B g r vo vw) (j : Nat) : W.frozen? ⟨g, j, none⟩ = false := by
  have e := h.own
  simp only [World.frozen?]
  rw [e]
  simp
/-- A row of items lies apart from the end itself. -/
theorem RefAt.apart {W : World} {B g : Nat} {r : RSt} {vo vw : Value} (h : RefAt W B g r vo vw) : vo.ownBlock ≠ some g ∧ vw.ownBlock ≠ some g := by
  have key : ∀ v n xs, W.ownsRow B 102 2 v n xs → v.ownBlock ≠ some g := by
    intro v n xs hr e
    rcases hr.2 with ⟨rfl, _⟩ | ⟨q, cap, cur, rfl, _, h2, _⟩
    · cases e
    · obtain rfl : q = g := by cases e; rfl
      have := h.own
      rw [h2] at this
      simp at this
  exact ⟨key _ _ _ h.opens, key _ _ _ h.wait⟩
def rsend (r : RSt) (body : Bytes) : (Bytes × Nat) × RSt :=
  if Tm.right body = false then (([], 1), r)
  else if r.opens.length = 64 then (([], 5), r)
  else if (frameL r.me r.peer 1 (r.sent + 1) [body]).2 = 0 then (frameL r.me r.peer 1 (r.sent + 1) [body], { r with sent := r.sent + 1, opens := r.opens ++ [(r.sent + 1, body)] })
  else (([], (frameL r.me r.peer 1 (r.sent + 1) [body]).2), r)
def RIn (g : Nat) (vo vw : Value) (k : Nat) : Prop := k = g ∨ vo.ownBlock = some k ∨ vw.ownBlock = some k
/-- A row lies where it lay, or in memory that is new. -/
def Fresh (w : World) (v v' : Value) : Prop := ∀ q, v'.ownBlock = some q → v.ownBlock = some q ∨ w.heap.size ≤ q
theorem Fresh.refl (w : World) (v : Value) : Fresh w v v := fun _ e => .inl e
def RSendOut (w : World) (B g : Nat) (r : RSt) (vo vw : Value) (body : Bytes) (e : Ending) (w' : World) : Prop :=
  ∃ vo', e = .returned (.tuple #[.string ⟨(rsend r body).1.1.toArray⟩, .int .i64 (rsend r body).1.2]) ∧ RefAt w' B g (rsend r body).2 vo' vw ∧ Only (RIn g vo vw) w w' ∧ Fresh w vo vo'
theorem info_item : (Tryz.prog.info? 102).map (fun i => (i.zero, i.size, i.bytes)) = some (some (.agg #[.int .i64 0, .string ⟨#[]⟩]), 2, 24) := by kernel_rfl
theorem blk_set6 {W : World} {b j : Nat} {t : TypeId} {cs : Array Value} (h : W.heap[b]? = some (.cells cs t (0, 0))) (v : Value) : (W.setCell ⟨b, j, none⟩ v).heap[b]? = some (.cells (cs.setIfInBounds j v) t (0, 0)) := by
  obtain ⟨hlt, hk⟩ := Array.getElem?_eq_some_iff.1 h
  show (W.heap.modify b _)[b]? = _
  rw [Array.getElem?_eq_getElem (by rw [Array.size_modify]; exact hlt), Array.getElem_modify_self, hk]
  rfl

theorem rs2 (a b c d : Nat) (vo vw : Value) : (refCells a b c d vo vw).setIfInBounds 2 (.int .i64 ((c : Int) + 1)) = refCells a b (c + 1) d vo vw := rfl
theorem rs4 (a b c d : Nat) (vo vw v : Value) : (refCells a b c d vo vw).setIfInBounds 4 v = refCells a b c d v vw := rfl
set_option maxRecDepth 100000 in
set_option maxHeartbeats 4000000 in
theorem rsend_calls {w : World} {B g : Nat} {r : RSt} {vo vw : Value} (h : RefAt w B g r vo vw) (hB : B ≤ w.heap.size) (h1 : 1 ≤ r.me) (h8 : r.me ≤ 8) (hp8 : r.peer ≤ 8) (hs : r.sent ≤ 1000000) (ho : r.opens.length ≤ 64) (body : Bytes) (hb : body.length ≤ 100000)
    (hsm : Tm.right body = true → (fmsg r.peer 1 (r.sent + 1) [body]).pack.1.length ≤ 10000) :
    Calls Tryz.prog 20 #[.pointer (some ⟨g, 0, none⟩), .string ⟨body.toArray⟩] w (RSendOut w B g r vo vw body) := by
  obtain ⟨i0, hi, hz0, hz1, hz2⟩ := info_parts info_item
  have HR := RRight_calls ⟨body.toArray⟩ (by rw [size_list]; omega) w
  have e0 : (⟨body.toArray⟩ : ByteArray).data.toList = body := by simp
  rw [e0] at HR
  have HR := Lib.hid HR
  obtain ⟨c0, c1, c2, c3, c4, c5⟩ := h.cells
  unfold RSendOut
  unfold rsend
  clear e0
  cases hr : Tm.right body with
  | false =>
    rw [hr] at HR
    rw [if_pos rfl]
    have HF : Hid (∀ m, ∃ vo', RefAt (w.drewN m) B g r vo' vw ∧ Only (RIn g vo vw) w (w.drewN m) ∧ Fresh w vo vo') := fun m => ⟨vo, h.same rfl (fun _ _ => rfl) (fun _ _ => rfl), (Only.refl _ _).drewN m, Fresh.refl _ _⟩
    clear h hb hsm hr c0 c1 c2 c3 c4 c5
    go_enter Tryz.func20, Tryz.ntmps20
    go_wp2_with fail
    refine HR.out.mono ?_
    rintro e w1 ⟨rfl, m, rfl⟩
    obtain ⟨vo', k1, k2⟩ := HF.out m
    have HF : Hid (RefAt (w.drewN m) B g r vo' vw ∧ Only (RIn g vo vw) w (w.drewN m) ∧ Fresh w vo vo') := ⟨k1, k2⟩
    clear k1 k2
    go_wp2
    go_ret2
    exact ⟨vo', rfl, HF.out⟩
  | true =>
    rw [hr] at HR
    rw [if_neg (by simp)]
    have hsm := hsm hr
    obtain ⟨Ao, co, rfl⟩ : ∃ A c, vo = .slice A r.opens.length c := by
      rcases h.opens.2 with ⟨rfl, h0⟩ | ⟨q, cap, cur, rfl, _⟩
      · exact ⟨none, 0, by rw [h0]⟩
      · exact ⟨_, cap, rfl⟩
    by_cases h64 : r.opens.length = 64
    · rw [if_pos h64]
      have h64i : ((r.opens.length : Int) == 64) = true := by rw [beq_iff_eq]; omega
      have HF : Hid (∀ m, ∃ vo', RefAt (w.drewN m) B g r vo' vw ∧ Only (RIn g (.slice Ao r.opens.length co) vw) w (w.drewN m) ∧ Fresh w (.slice Ao r.opens.length co) vo') := fun m => ⟨_, h.same rfl (fun _ _ => rfl) (fun _ _ => rfl), (Only.refl _ _).drewN m, Fresh.refl _ _⟩
      clear h hb hsm hr c0 c1 c2 c3 c5 h64
      go_enter Tryz.func20, Tryz.ntmps20
      go_wp2_with fail
      refine HR.out.mono ?_
      rintro e w1 ⟨rfl, m, rfl⟩
      obtain ⟨vo', k1, k2⟩ := HF.out m
      have HF : Hid (RefAt (w.drewN m) B g r vo' vw ∧ Only (RIn g (.slice Ao r.opens.length co) vw) w (w.drewN m) ∧ Fresh w (.slice Ao r.opens.length co) vo') := ⟨k1, k2⟩
      clear k1 k2
      go_wp2
      go_ret2
      exact ⟨vo', rfl, HF.out⟩
    · rw [if_neg h64]
      have h64i : ((r.opens.length : Int) == 64) = false := by rw [beq_eq_false_iff_ne]; omega
      have HFr0 : Hid (∀ V : World, Calls Tryz.prog 43 #[.int .i64 r.me, .int .i64 r.peer, .int .i64 1, .int .i64 ((r.sent : Int) + 1), .slice (some ⟨V.heap.size, 0, none⟩) 1 1] ((V.alloc (.cells #[.string ⟨body.toArray⟩] 9))) (Pair2 (V.alloc (.cells #[.string ⟨body.toArray⟩] 9)) (frameL r.me r.peer 1 (r.sent + 1) [body]))) := fun V =>
        frame7_calls h1 h8 hp8 1 (r.sent + 1) _ [body] _ (rowA_one (World.alloc_heap_new V _) (by unfold maxLen; omega)) (fun n c e => by cases e) (by simp) hsm
      have HH := Lib.hid h
      generalize frameL r.me r.peer 1 (r.sent + 1) [body] = fr at *
      obtain ⟨ft, fe⟩ := fr
      dsimp only
      clear h hb hsm hr h64 c0 c1 c2 c3 c5
      by_cases hf0 : fe = 0
      · rw [if_pos hf0]
        go_enter Tryz.func20, Tryz.ntmps20
        go_wp2_with fail
        refine HR.out.mono ?_
        rintro e w1 ⟨rfl, m, rfl⟩
        have h1 : RefAt (w.drewN m) B g r (.slice Ao r.opens.length co) vw := HH.out.same rfl (fun _ _ => rfl) (fun _ _ => rfl)
        obtain ⟨V, hV⟩ : ∃ V, w.drewN m = V := ⟨_, rfl⟩
        rw [hV] at h1
        have hVw : Only (RIn g (.slice Ao r.opens.length co) vw) w V := by rw [← hV]; exact (Only.refl _ _).drewN m
        have hVB : B ≤ V.heap.size := by rw [← hV]; exact hB
        obtain ⟨d0, d1, d2, d3, d4, d5⟩ := h1.cells
        have bA : Below V.heap.size V (V.drew.alloc (.cells #[.string ⟨body.toArray⟩] 9)) := (Below.refl _ V).drew.alloc (Nat.le_refl _) _
        have hgV := h1.lt
        have HC5 : Hid ((V.drew.cell? ⟨g, 0, none⟩ = some (.int .i64 r.me) ∧ V.drew.cell? ⟨g, 1, none⟩ = some (.int .i64 r.peer) ∧ V.drew.cell? ⟨g, 2, none⟩ = some (.int .i64 r.sent)) ∧ (V.drew.alloc (.cells #[.string ⟨body.toArray⟩] 9)).cell? ⟨g, 0, none⟩ = some (.int .i64 r.me) ∧ (V.drew.alloc (.cells #[.string ⟨body.toArray⟩] 9)).cell? ⟨g, 1, none⟩ = some (.int .i64 r.peer) ∧ (V.drew.alloc (.cells #[.string ⟨body.toArray⟩] 9)).cell? ⟨g, 2, none⟩ = some (.int .i64 r.sent)) :=
          ⟨⟨d0, d1, d2⟩, (bA.cell (p := ⟨g, 0, none⟩) hgV).trans d0, (bA.cell (p := ⟨g, 1, none⟩) hgV).trans d1, (bA.cell (p := ⟨g, 2, none⟩) hgV).trans d2⟩
        have HFr := Lib.hid (HFr0.out V.drew)
        have HB1n : Hid (∀ w2, Below (V.drew.alloc (.cells #[.string ⟨body.toArray⟩] 9)).heap.size (V.drew.alloc (.cells #[.string ⟨body.toArray⟩] 9)) w2 → Below V.heap.size V w2) := fun w2 b => bA.trans (b.mono bA.size)
        have HCk : Hid (∀ w2, Below (V.drew.alloc (.cells #[.string ⟨body.toArray⟩] 9)).heap.size (V.drew.alloc (.cells #[.string ⟨body.toArray⟩] 9)) w2 → w2.cell? ⟨g, 0, none⟩ = some (.int .i64 r.me) ∧ w2.cell? ⟨g, 1, none⟩ = some (.int .i64 r.peer) ∧ w2.cell? ⟨g, 2, none⟩ = some (.int .i64 r.sent)) := fun w2 b =>
          ⟨((bA.trans (b.mono bA.size)).cell (p := ⟨g, 0, none⟩) hgV).trans d0, ((bA.trans (b.mono bA.size)).cell (p := ⟨g, 1, none⟩) hgV).trans d1, ((bA.trans (b.mono bA.size)).cell (p := ⟨g, 2, none⟩) hgV).trans d2⟩
        have HH1 := Lib.hid h1
        have HV := Lib.hid (And.intro hVw hVB)
        have hwr : IntKind.i64.wrap ((r.sent : Int) + 1) = (r.sent : Int) + 1 := by rw [IntKind.wrap_i64]; omega
        clear h1 bA hVw hVB d3 d5 HFr0 HR HH
        unfold Pair2 at HFr
        dsimp only at HFr
        go_wp2
        refine wp_region_held_drew (S := (fun w' => w'.cell? ⟨g, 0, none⟩ = some (.int .i64 r.me) ∧ w'.cell? ⟨g, 1, none⟩ = some (.int .i64 r.peer) ∧ w'.cell? ⟨g, 2, none⟩ = some (.int .i64 r.sent))) (by kernel_rfl) ?_ (fun hHeld => ?_)
        · exact HC5.out.1
        refine wpAnyH_take (i := 0) (v := ?_) rfl (by kernel_rfl) (by kernel_rfl) (by kernel_rfl) (fun _ _ _ h => h) (Or.inl ⟨by rfl, ?_⟩) (by assumption) ?_
        rotate_left 1
        · (intro w hSw; (try dsimp only at hSw); go_simp; try with_reducible rfl)
        try simp only [List.getElem_toArray, List.getElem_cons_zero, Act.put, List.setIfInBounds_toArray, List.set_cons_zero, List.set_cons_succ]
        refine wpAnyH_take (i := 1) (v := ?_) rfl (by kernel_rfl) (by kernel_rfl) (by kernel_rfl) (fun _ _ _ h => h) (Or.inl ⟨by rfl, ?_⟩) (by assumption) ?_
        rotate_left 1
        · (intro w hSw; (try dsimp only at hSw); go_simp; try with_reducible rfl)
        try simp only [List.getElem_toArray, List.getElem_cons_zero, List.getElem_cons_succ, Act.put, List.setIfInBounds_toArray, List.set_cons_zero, List.set_cons_succ]
        refine wpAnyH_take (i := 2) (v := ?_) rfl (by kernel_rfl) (by kernel_rfl) (by kernel_rfl) (fun _ _ _ h => h) (Or.inl ⟨by rfl, ?_⟩) (by assumption) ?_
        rotate_left 1
        · (intro w hSw; (try dsimp only at hSw); go_simp; try with_reducible rfl)
        try simp only [List.getElem_toArray, List.getElem_cons_zero, List.getElem_cons_succ, Act.put, List.setIfInBounds_toArray, List.set_cons_zero, List.set_cons_succ]
        refine wpAnyH_take (i := 3) (v := ?_) rfl (by kernel_rfl) (by kernel_rfl) (by kernel_rfl) (fun _ _ _ h => h) (Or.inl ⟨by rfl, ?_⟩) (by assumption) ?_
        rotate_left 1
        · (intro w hSw; (try dsimp only at hSw); go_simp; try with_reducible rfl)
        try simp only [List.getElem_toArray, List.getElem_cons_zero, List.getElem_cons_succ, Act.put, List.setIfInBounds_toArray, List.set_cons_zero, List.set_cons_succ]
        refine wpAnyH_take (i := 4) (v := ?_) rfl (by kernel_rfl) (by kernel_rfl) (by kernel_rfl) (fun _ _ _ h => h) (Or.inl ⟨by rfl, ?_⟩) (by assumption) ?_
        rotate_left 1
        · (intro w hSw; (try dsimp only at hSw); go_simp; try with_reducible rfl)
        try simp only [List.getElem_toArray, List.getElem_cons_zero, List.getElem_cons_succ, Act.put, List.setIfInBounds_toArray, List.set_cons_zero, List.set_cons_succ]
        refine wpAnyH_take (i := 5) (v := ?_) rfl (by kernel_rfl) (by kernel_rfl) (by kernel_rfl) (fun _ _ _ h => h) (Or.inl ⟨by rfl, ?_⟩) (by assumption) ?_
        rotate_left 1
        · (intro w hSw; (try dsimp only at hSw); go_simp; try with_reducible rfl)
        try simp only [List.getElem_toArray, List.getElem_cons_zero, List.getElem_cons_succ, Act.put, List.setIfInBounds_toArray, List.set_cons_zero, List.set_cons_succ]
        refine wpAnyH_take (i := 6) (v := ?_) rfl (by kernel_rfl) (by kernel_rfl) (by kernel_rfl) (fun _ _ _ h => h) (Or.inl ⟨by rfl, ?_⟩) (by assumption) ?_
        rotate_left 1
        · (intro w hSw; (try dsimp only at hSw); go_simp; try with_reducible rfl)
        try simp only [List.getElem_toArray, List.getElem_cons_zero, List.getElem_cons_succ, Act.put, List.setIfInBounds_toArray, List.set_cons_zero, List.set_cons_succ]
        refine wpAnyH_take (i := 7) (v := ?_) rfl (by kernel_rfl) (by kernel_rfl) (by kernel_rfl) (fun _ _ _ h => h) (Or.inl ⟨by rfl, ?_⟩) (by assumption) ?_
        rotate_left 1
        · (intro w hSw; (try dsimp only at hSw); go_simp; try with_reducible rfl)
        try simp only [List.getElem_toArray, List.getElem_cons_zero, List.getElem_cons_succ, Act.put, List.setIfInBounds_toArray, List.set_cons_zero, List.set_cons_succ]
        refine wpAnyH_take (i := 8) (v := ?_) rfl (by kernel_rfl) (by kernel_rfl) (by kernel_rfl) (fun _ _ _ h => h) (Or.inl ⟨by rfl, ?_⟩) (by assumption) ?_
        rotate_left 1
        · (intro w hSw; (try dsimp only at hSw); go_simp; try with_reducible rfl)
        try simp only [List.getElem_toArray, List.getElem_cons_zero, List.getElem_cons_succ, Act.put, List.setIfInBounds_toArray, List.set_cons_zero, List.set_cons_succ]
        refine wpAnyH_take (i := 9) (v := ?_) rfl (by kernel_rfl) (by kernel_rfl) (by kernel_rfl) (fun _ _ _ h => h) (Or.inl ⟨by rfl, ?_⟩) (by assumption) ?_
        rotate_left 1
        · (intro w hSw; (try dsimp only at hSw); go_simp; try with_reducible rfl)
        try simp only [List.getElem_toArray, List.getElem_cons_zero, List.getElem_cons_succ, Act.put, List.setIfInBounds_toArray, List.set_cons_zero, List.set_cons_succ]
        refine wpAnyH_take (i := 10) (v := ?_) rfl (by kernel_rfl) (by kernel_rfl) (by kernel_rfl) (fun _ _ _ h => h) (Or.inl ⟨by rfl, ?_⟩) (by assumption) ?_
        rotate_left 1
        · (intro w hSw; (try dsimp only at hSw); go_simp; try with_reducible rfl)
        try simp only [List.getElem_toArray, List.getElem_cons_zero, List.getElem_cons_succ, Act.put, List.setIfInBounds_toArray, List.set_cons_zero, List.set_cons_succ]
        refine wpAnyH_take (i := 11) (v := ?_) rfl (by kernel_rfl) (by kernel_rfl) (by kernel_rfl) (fun _ _ _ h => h) (Or.inl ⟨by rfl, ?_⟩) (by assumption) ?_
        rotate_left 1
        · (intro w hSw; (try dsimp only at hSw); go_simp; try with_reducible rfl)
        try simp only [List.getElem_toArray, List.getElem_cons_zero, List.getElem_cons_succ, Act.put, List.setIfInBounds_toArray, List.set_cons_zero, List.set_cons_succ]
        refine wpAnyH_take (i := 12) (v := ?_) rfl (by kernel_rfl) (by kernel_rfl) (by kernel_rfl) (fun _ _ _ h => h) (Or.inl ⟨by rfl, ?_⟩) (by assumption) ?_
        rotate_left 1
        · (intro w hSw; (try dsimp only at hSw); go_simp; try with_reducible rfl)
        try simp only [List.getElem_toArray, List.getElem_cons_zero, List.getElem_cons_succ, Act.put, List.setIfInBounds_toArray, List.set_cons_zero, List.set_cons_succ]
        refine wpAnyH_take (i := 13) (v := ?_) rfl (by kernel_rfl) (by kernel_rfl) (by kernel_rfl) (fun _ _ _ h => h) (Or.inl ⟨by rfl, ?_⟩) (by assumption) ?_
        rotate_left 1
        · (intro w hSw; (try dsimp only at hSw); go_simp; try with_reducible rfl)
        try simp only [List.getElem_toArray, List.getElem_cons_zero, List.getElem_cons_succ, Act.put, List.setIfInBounds_toArray, List.set_cons_zero, List.set_cons_succ]
        refine wpAnyH_ready (rs := [14]) (by kernel_rfl) (by simp) ?_
        refine AllReadyH.cons rfl (fun K hK => ?_) AllReadyH.nil
        try simp only [List.getElem_toArray, List.getElem_cons_zero, List.getElem_cons_succ]
        go_simp
        refine hK.out _ _ ?_ (fun hHeld => ?_)
        · exact HC5.out.2
        clear hK K
        try simp only [List.getElem_toArray, List.getElem_cons_zero, List.getElem_cons_succ, Act.put, List.setIfInBounds_toArray, List.set_cons_zero, List.set_cons_succ]
        refine wpAnyH_ready (rs := [15]) (by kernel_rfl) (by simp) ?_
        refine AllReadyH.cons rfl (fun K hK => ?_) AllReadyH.nil
        try simp only [List.getElem_toArray, List.getElem_cons_zero, List.getElem_cons_succ]
        (go_simp; go_at_call 43; refine HFr.out.mono ?_; rintro e w2 ⟨rfl, b2⟩; have HB2 := Lib.hid (HB1n.out w2 b2); have HC2 := Lib.hid (HCk.out w2 b2); clear b2)
        refine hK.out _ _ ?_ (fun hHeld => ?_)
        · exact HC2.out
        clear hK K
        try simp only [List.getElem_toArray, List.getElem_cons_zero, List.getElem_cons_succ, Act.put, List.setIfInBounds_toArray, List.set_cons_zero, List.set_cons_succ]
        refine wpAnyH_take (i := 16) (v := ?_) rfl (by kernel_rfl) (by kernel_rfl) (by kernel_rfl) (fun _ _ _ h => h) (Or.inl ⟨by rfl, ?_⟩) (by assumption) ?_
        rotate_left 1
        · (intro w hSw; (try dsimp only at hSw); go_simp; try with_reducible rfl)
        try simp only [List.getElem_toArray, List.getElem_cons_zero, List.getElem_cons_succ, Act.put, List.setIfInBounds_toArray, List.set_cons_zero, List.set_cons_succ]
        refine wpAnyH_take (i := 17) (v := ?_) rfl (by kernel_rfl) (by kernel_rfl) (by kernel_rfl) (fun _ _ _ h => h) (Or.inl ⟨by rfl, ?_⟩) (by assumption) ?_
        rotate_left 1
        · (intro w hSw; (try dsimp only at hSw); go_simp; try with_reducible rfl)
        try simp only [List.getElem_toArray, List.getElem_cons_zero, List.getElem_cons_succ, Act.put, List.setIfInBounds_toArray, List.set_cons_zero, List.set_cons_succ]
        refine wpAnyH_take (i := 18) (v := ?_) rfl (by kernel_rfl) (by kernel_rfl) (by kernel_rfl) (fun _ _ _ h => h) (Or.inl ⟨by rfl, ?_⟩) (by assumption) ?_
        rotate_left 1
        · (intro w hSw; (try dsimp only at hSw); go_simp; try with_reducible rfl)
        try simp only [List.getElem_toArray, List.getElem_cons_zero, List.getElem_cons_succ, Act.put, List.setIfInBounds_toArray, List.set_cons_zero, List.set_cons_succ]
        refine wpAnyH_take (i := 19) (v := ?_) rfl (by kernel_rfl) (by kernel_rfl) (by kernel_rfl) (fun _ _ _ h => h) (Or.inl ⟨by rfl, ?_⟩) (by assumption) ?_
        rotate_left 1
        · (intro w hSw; (try dsimp only at hSw); go_simp; try with_reducible rfl)
        try simp only [List.getElem_toArray, List.getElem_cons_zero, List.getElem_cons_succ, Act.put, List.setIfInBounds_toArray, List.set_cons_zero, List.set_cons_succ]
        refine wpAnyH_take (i := 20) (v := ?_) rfl (by kernel_rfl) (by kernel_rfl) (by kernel_rfl) (fun _ _ _ h => h) (Or.inl ⟨by rfl, ?_⟩) (by assumption) ?_
        rotate_left 1
        · (intro w hSw; (try dsimp only at hSw); go_simp; try with_reducible rfl)
        try simp only [List.getElem_toArray, List.getElem_cons_zero, List.getElem_cons_succ, Act.put, List.setIfInBounds_toArray, List.set_cons_zero, List.set_cons_succ]
        refine wpAnyH_done (by kernel_rfl) ?_ _
        clear HFr HCk HC2 HC5 HB1n d0 d1 d2 d4 c4
        have hR2 := HH1.out.below HB2.out
        obtain ⟨e0, e1, e2, e3, e4, e5⟩ := hR2.cells
        have hf2 := hR2.froze 2
        have hf0i : ((fe : Int) != 0) = false := by simp; omega
        have hap := hR2.apart
        have hgl := hR2.lt
        obtain ⟨V2, hV2⟩ : ∃ V2, w2.setCell ⟨g, 2, none⟩ (.int .i64 ((r.sent : Int) + 1)) = V2 := ⟨_, rfl⟩
        have hR3 : RefAt V2 B g { r with sent := r.sent + 1 } (.slice Ao r.opens.length co) vw := by
          have k := blk_set6 (j := 2) hR2.own (.int .i64 ((r.sent : Int) + 1))
          rw [rs2] at k
          have kk : ∀ q, q ≠ g → V2.heap[q]? = w2.heap[q]? := fun q hq => by rw [← hV2]; exact Below.heap_setCell _ _ _ _ (by show q ≠ g; exact hq)
          refine ⟨?_, hR2.base, L5.own_same hR2.opens (fun q e => kk q (fun e' => hap.1 (by rw [e, e']))), L5.own_same hR2.wait (fun q e => kk q (fun e' => hap.2 (by rw [e, e']))), hR2.sep⟩
          rw [← hV2]
          exact k
        have hO3 : Only (RIn g (.slice Ao r.opens.length co) vw) w V2 := by
          rw [← hV2]
          exact (HV.out.1.trans (Only.of_below HB2.out)).setCell (.inl (.inl rfl)) _
        have hB3 : B ≤ V2.heap.size := by
          have := HV.out.2
          have h2 := HB2.out.size
          have : V2.heap.size = w2.heap.size := by rw [← hV2]; simp
          omega
        obtain ⟨f0, f1, f2, f3, f4, f5⟩ := hR3.cells
        have hgl3 := hR3.lt
        have bA : Below V2.heap.size V2 (V2.drew.alloc (.cells #[.int .i64 ((r.sent : Int) + 1), .string ⟨body.toArray⟩] 102)) := (Below.refl _ V2).drew.alloc (Nat.le_refl _) _
        have g4 := (bA.cell (p := ⟨g, 4, none⟩) hgl3).trans f4
        have hR4 := hR3.below bA
        have HR4 := Lib.hid hR4
        have HNews : Hid (∀ (j : Nat) (u : Value), [(Value.int .i64 ((r.sent : Int) + 1)), .string ⟨body.toArray⟩][j]? = some u → (V2.drew.alloc (.cells #[.int .i64 ((r.sent : Int) + 1), .string ⟨body.toArray⟩] 102)).cell? ((⟨V2.heap.size, 0, none⟩ : Addr).add j) = some u) :=
          World.news_of_block (cs := #[.int .i64 ((r.sent : Int) + 1), .string ⟨body.toArray⟩]) (t := 102) (fr := (0, 0)) (heap_alloc_new V2.drew _)
        have hBA : B ≤ (V2.drew.alloc (.cells #[.int .i64 ((r.sent : Int) + 1), .string ⟨body.toArray⟩] 102)).heap.size := Nat.le_trans hB3 bA.size
        have HEnd : Hid (∀ v3 w3, w3.ownsRow B 102 2 v3 (r.opens.length + 1) (flatI r.opens ++ [.int .i64 ((r.sent : Int) + 1), .string ⟨body.toArray⟩]) → (V2.drew.alloc (.cells #[.int .i64 ((r.sent : Int) + 1), .string ⟨body.toArray⟩] 102)).grownBy w3 (Value.slice Ao r.opens.length co).ownBlock → (∀ q, v3.ownBlock = some q → vw.ownBlock ≠ some q) →
            w3.cell? ⟨g, 4, none⟩ = some (.slice Ao r.opens.length co) ∧ w3.frozen? ⟨g, 4, none⟩ = false ∧ RefAt (w3.setCell ⟨g, 4, none⟩ v3) B g { r with sent := r.sent + 1, opens := r.opens ++ [(r.sent + 1, body)] } v3 vw ∧ Only (RIn g (.slice Ao r.opens.length co) vw) w (w3.setCell ⟨g, 4, none⟩ v3)) := fun v3 w3 k1 k2 k3 => by
          have ha4 := hR4.apart
          have hg4 := hR4.lt
          have own3 : w3.heap[g]? = some (.cells (refCells r.me r.peer (r.sent + 1) r.taken (.slice Ao r.opens.length co) vw) 43 (0, 0)) := (k2.block g hg4 (fun e => ha4.1 e.symm)).trans hR4.own
          have w3row : w3.ownsRow B 102 2 vw r.wait.length (flatI r.wait) := L5.own_same hR4.wait (fun q e => k2.block q (hR4.wait.lt q e).2 (fun e' => hR4.sep q e'.symm e))
          have v3g : v3.ownBlock ≠ some g := by
            intro e
            rcases k1.2 with ⟨rfl, _⟩ | ⟨q, cap, cur, rfl, _, h2, _⟩
            · cases e
            · obtain rfl : q = g := by cases e; rfl
              rw [own3] at h2
              simp at h2
          have vwg : vw.ownBlock ≠ some g := ha4.2
          refine ⟨by simp only [World.cell?]; rw [own3]; rfl, by simp only [World.frozen?]; rw [own3]; simp, ⟨by have k := blk_set6 (j := 4) own3 v3; rw [rs4] at k; exact k, hR4.base, ?_, ?_, k3⟩, ?_⟩
          · have e : flatI (r.opens ++ [(r.sent + 1, body)]) = flatI r.opens ++ [.int .i64 ((r.sent : Int) + 1), .string ⟨body.toArray⟩] := flatI_snoc _ _ _
            show (w3.setCell ⟨g, 4, none⟩ v3).ownsRow B _ 2 v3 (r.opens ++ [(r.sent + 1, body)]).length (flatI (r.opens ++ [(r.sent + 1, body)]))
            rw [e, List.length_append]
            exact L5.own_same k1 (fun q e => Below.heap_setCell _ _ _ _ (by show q ≠ g; intro e'; exact v3g (by rw [e, e'])))
          · exact L5.own_same w3row (fun q e => Below.heap_setCell _ _ _ _ (by show q ≠ g; intro e'; exact vwg (by rw [e, e'])))
          · refine Only.setCell ?_ (.inl (.inl rfl)) _
            have o4 : Only (RIn g (.slice Ao r.opens.length co) vw) w (V2.drew.alloc (.cells #[.int .i64 ((r.sent : Int) + 1), .string ⟨body.toArray⟩] 102)) := hO3.trans (Only.of_below bA)
            exact ⟨k2.os.trans o4.os, k2.tape.trans o4.tape, k2.output.trans o4.output, Nat.le_trans o4.size k2.size, fun k hk hn => (k2.block k (Nat.lt_of_lt_of_le hk o4.size) (fun e => hn (.inr (.inl e.symm)))).trans (o4.block k hk hn)⟩
        have HWz : Hid (w.heap.size ≤ V2.heap.size) := hO3.size
        have HSep : Hid (∀ q, vw.ownBlock = some q → q < V2.heap.size) := fun q e => (hR3.wait.lt q e).2
        have hsep := Lib.hid hR3.sep
        have hz2s : V2.heap.size + 1 ≤ (V2.drew.alloc (.cells #[.int .i64 ((r.sent : Int) + 1), .string ⟨body.toArray⟩] 102)).heap.size := by rw [World.size_alloc]; exact Nat.le_refl _
        have hzA : (V2.drew.alloc (.cells #[.int .i64 ((r.sent : Int) + 1), .string ⟨body.toArray⟩] 102)).heap.size = V2.heap.size + 1 := by rw [World.size_alloc]; rfl
        clear hR2 hR3 hR4 hO3 hB3 bA hap hgl HH1 e0 e1 e3 e4 e5 f0 f1 f3 f5 HV HB2 hz2s
        go_wp2
        go_region_law (first
          | (refine step_append_lies _ rfl (.tmp 50) (.tmp 57) 41 rfl B 102 i0 (.agg #[.int .i64 0, .string ⟨#[]⟩]) 2 24 Tryz.underlying41 hi hz0 hz1 hz2 rfl (by decide) (.slice Ao r.opens.length co) r.opens.length (flatI r.opens) (by simp [Act.eval]) HR4.out.opens ⟨V2.heap.size, 0, none⟩ 1 1 [.int .i64 ((r.sent : Int) + 1), .string ⟨body.toArray⟩] (by simp [Act.eval]) rfl HNews.out (by simp [Value.oneCell']) (by decide) (by unfold maxLen; omega) (by omega) hBA (V2.heap.size + 1) hzA ?_
             intro gg cc w3 k1 k2 k3 k4
             obtain ⟨j4, jf, jr⟩ := HEnd.out _ w3 k1 k2 (fun q e e' => by
               have e2 : gg = q := by cases e; rfl
               rcases k3 with k3 | k3
               · exact hsep.out q (by rw [k3, e2]) e'
               · have := HSep.out q e'
                 omega)
             have hfr2 : Fresh w (.slice Ao r.opens.length co) (.slice (some ⟨gg, 0, none⟩) (r.opens.length + 1) cc) := fun q e => by
               have e2 : gg = q := by cases e; rfl
               rcases k3 with k3 | k3
               · exact .inl (by rw [k3, e2])
               · exact .inr (by have := HWz.out; omega)
             clear k1 k2 k3 k4))
        all_goals
          have HJ := Lib.hid (And.intro jr.1 (And.intro jr.2 hfr2))
          clear jr hfr2 HEnd HNews HR4
          go_wp2
          go_ret2
          refine ⟨.slice (some ⟨gg, 0, none⟩) (r.opens.length + 1) cc, ?_, ?_⟩
          · dsimp only
            rw [hf0]
            rfl
          · exact HJ.out
      · rw [if_neg hf0]
        go_enter Tryz.func20, Tryz.ntmps20
        go_wp2_with fail
        refine HR.out.mono ?_
        rintro e w1 ⟨rfl, m, rfl⟩
        have h1 : RefAt (w.drewN m) B g r (.slice Ao r.opens.length co) vw := HH.out.same rfl (fun _ _ => rfl) (fun _ _ => rfl)
        obtain ⟨V, hV⟩ : ∃ V, w.drewN m = V := ⟨_, rfl⟩
        rw [hV] at h1
        have hVw : Only (RIn g (.slice Ao r.opens.length co) vw) w V := by rw [← hV]; exact (Only.refl _ _).drewN m
        have hVB : B ≤ V.heap.size := by rw [← hV]; exact hB
        obtain ⟨d0, d1, d2, d3, d4, d5⟩ := h1.cells
        have bA : Below V.heap.size V (V.drew.alloc (.cells #[.string ⟨body.toArray⟩] 9)) := (Below.refl _ V).drew.alloc (Nat.le_refl _) _
        have hgV := h1.lt
        have HC5 : Hid ((V.drew.cell? ⟨g, 0, none⟩ = some (.int .i64 r.me) ∧ V.drew.cell? ⟨g, 1, none⟩ = some (.int .i64 r.peer) ∧ V.drew.cell? ⟨g, 2, none⟩ = some (.int .i64 r.sent)) ∧ (V.drew.alloc (.cells #[.string ⟨body.toArray⟩] 9)).cell? ⟨g, 0, none⟩ = some (.int .i64 r.me) ∧ (V.drew.alloc (.cells #[.string ⟨body.toArray⟩] 9)).cell? ⟨g, 1, none⟩ = some (.int .i64 r.peer) ∧ (V.drew.alloc (.cells #[.string ⟨body.toArray⟩] 9)).cell? ⟨g, 2, none⟩ = some (.int .i64 r.sent)) :=
          ⟨⟨d0, d1, d2⟩, (bA.cell (p := ⟨g, 0, none⟩) hgV).trans d0, (bA.cell (p := ⟨g, 1, none⟩) hgV).trans d1, (bA.cell (p := ⟨g, 2, none⟩) hgV).trans d2⟩
        have HFr := Lib.hid (HFr0.out V.drew)
        have HB1n : Hid (∀ w2, Below (V.drew.alloc (.cells #[.string ⟨body.toArray⟩] 9)).heap.size (V.drew.alloc (.cells #[.string ⟨body.toArray⟩] 9)) w2 → Below V.heap.size V w2) := fun w2 b => bA.trans (b.mono bA.size)
        have HCk : Hid (∀ w2, Below (V.drew.alloc (.cells #[.string ⟨body.toArray⟩] 9)).heap.size (V.drew.alloc (.cells #[.string ⟨body.toArray⟩] 9)) w2 → w2.cell? ⟨g, 0, none⟩ = some (.int .i64 r.me) ∧ w2.cell? ⟨g, 1, none⟩ = some (.int .i64 r.peer) ∧ w2.cell? ⟨g, 2, none⟩ = some (.int .i64 r.sent)) := fun w2 b =>
          ⟨((bA.trans (b.mono bA.size)).cell (p := ⟨g, 0, none⟩) hgV).trans d0, ((bA.trans (b.mono bA.size)).cell (p := ⟨g, 1, none⟩) hgV).trans d1, ((bA.trans (b.mono bA.size)).cell (p := ⟨g, 2, none⟩) hgV).trans d2⟩
        have HH1 := Lib.hid h1
        have HV := Lib.hid (And.intro hVw hVB)
        have hwr : IntKind.i64.wrap ((r.sent : Int) + 1) = (r.sent : Int) + 1 := by rw [IntKind.wrap_i64]; omega
        clear h1 bA hVw hVB d3 d5 HFr0 HR HH
        unfold Pair2 at HFr
        dsimp only at HFr
        go_wp2
        refine wp_region_held_drew (S := (fun w' => w'.cell? ⟨g, 0, none⟩ = some (.int .i64 r.me) ∧ w'.cell? ⟨g, 1, none⟩ = some (.int .i64 r.peer) ∧ w'.cell? ⟨g, 2, none⟩ = some (.int .i64 r.sent))) (by kernel_rfl) ?_ (fun hHeld => ?_)
        · exact HC5.out.1
        refine wpAnyH_take (i := 0) (v := ?_) rfl (by kernel_rfl) (by kernel_rfl) (by kernel_rfl) (fun _ _ _ h => h) (Or.inl ⟨by rfl, ?_⟩) (by assumption) ?_
        rotate_left 1
        · (intro w hSw; (try dsimp only at hSw); go_simp; try with_reducible rfl)
        try simp only [List.getElem_toArray, List.getElem_cons_zero, Act.put, List.setIfInBounds_toArray, List.set_cons_zero, List.set_cons_succ]
        refine wpAnyH_take (i := 1) (v := ?_) rfl (by kernel_rfl) (by kernel_rfl) (by kernel_rfl) (fun _ _ _ h => h) (Or.inl ⟨by rfl, ?_⟩) (by assumption) ?_
        rotate_left 1
        · (intro w hSw; (try dsimp only at hSw); go_simp; try with_reducible rfl)
        try simp only [List.getElem_toArray, List.getElem_cons_zero, List.getElem_cons_succ, Act.put, List.setIfInBounds_toArray, List.set_cons_zero, List.set_cons_succ]
        refine wpAnyH_take (i := 2) (v := ?_) rfl (by kernel_rfl) (by kernel_rfl) (by kernel_rfl) (fun _ _ _ h => h) (Or.inl ⟨by rfl, ?_⟩) (by assumption) ?_
        rotate_left 1
        · (intro w hSw; (try dsimp only at hSw); go_simp; try with_reducible rfl)
        try simp only [List.getElem_toArray, List.getElem_cons_zero, List.getElem_cons_succ, Act.put, List.setIfInBounds_toArray, List.set_cons_zero, List.set_cons_succ]
        refine wpAnyH_take (i := 3) (v := ?_) rfl (by kernel_rfl) (by kernel_rfl) (by kernel_rfl) (fun _ _ _ h => h) (Or.inl ⟨by rfl, ?_⟩) (by assumption) ?_
        rotate_left 1
        · (intro w hSw; (try dsimp only at hSw); go_simp; try with_reducible rfl)
        try simp only [List.getElem_toArray, List.getElem_cons_zero, List.getElem_cons_succ, Act.put, List.setIfInBounds_toArray, List.set_cons_zero, List.set_cons_succ]
        refine wpAnyH_take (i := 4) (v := ?_) rfl (by kernel_rfl) (by kernel_rfl) (by kernel_rfl) (fun _ _ _ h => h) (Or.inl ⟨by rfl, ?_⟩) (by assumption) ?_
        rotate_left 1
        · (intro w hSw; (try dsimp only at hSw); go_simp; try with_reducible rfl)
        try simp only [List.getElem_toArray, List.getElem_cons_zero, List.getElem_cons_succ, Act.put, List.setIfInBounds_toArray, List.set_cons_zero, List.set_cons_succ]
        refine wpAnyH_take (i := 5) (v := ?_) rfl (by kernel_rfl) (by kernel_rfl) (by kernel_rfl) (fun _ _ _ h => h) (Or.inl ⟨by rfl, ?_⟩) (by assumption) ?_
        rotate_left 1
        · (intro w hSw; (try dsimp only at hSw); go_simp; try with_reducible rfl)
        try simp only [List.getElem_toArray, List.getElem_cons_zero, List.getElem_cons_succ, Act.put, List.setIfInBounds_toArray, List.set_cons_zero, List.set_cons_succ]
        refine wpAnyH_take (i := 6) (v := ?_) rfl (by kernel_rfl) (by kernel_rfl) (by kernel_rfl) (fun _ _ _ h => h) (Or.inl ⟨by rfl, ?_⟩) (by assumption) ?_
        rotate_left 1
        · (intro w hSw; (try dsimp only at hSw); go_simp; try with_reducible rfl)
        try simp only [List.getElem_toArray, List.getElem_cons_zero, List.getElem_cons_succ, Act.put, List.setIfInBounds_toArray, List.set_cons_zero, List.set_cons_succ]
        refine wpAnyH_take (i := 7) (v := ?_) rfl (by kernel_rfl) (by kernel_rfl) (by kernel_rfl) (fun _ _ _ h => h) (Or.inl ⟨by rfl, ?_⟩) (by assumption) ?_
        rotate_left 1
        · (intro w hSw; (try dsimp only at hSw); go_simp; try with_reducible rfl)
        try simp only [List.getElem_toArray, List.getElem_cons_zero, List.getElem_cons_succ, Act.put, List.setIfInBounds_toArray, List.set_cons_zero, List.set_cons_succ]
        refine wpAnyH_take (i := 8) (v := ?_) rfl (by kernel_rfl) (by kernel_rfl) (by kernel_rfl) (fun _ _ _ h => h) (Or.inl ⟨by rfl, ?_⟩) (by assumption) ?_
        rotate_left 1
        · (intro w hSw; (try dsimp only at hSw); go_simp; try with_reducible rfl)
        try simp only [List.getElem_toArray, List.getElem_cons_zero, List.getElem_cons_succ, Act.put, List.setIfInBounds_toArray, List.set_cons_zero, List.set_cons_succ]
        refine wpAnyH_take (i := 9) (v := ?_) rfl (by kernel_rfl) (by kernel_rfl) (by kernel_rfl) (fun _ _ _ h => h) (Or.inl ⟨by rfl, ?_⟩) (by assumption) ?_
        rotate_left 1
        · (intro w hSw; (try dsimp only at hSw); go_simp; try with_reducible rfl)
        try simp only [List.getElem_toArray, List.getElem_cons_zero, List.getElem_cons_succ, Act.put, List.setIfInBounds_toArray, List.set_cons_zero, List.set_cons_succ]
        refine wpAnyH_take (i := 10) (v := ?_) rfl (by kernel_rfl) (by kernel_rfl) (by kernel_rfl) (fun _ _ _ h => h) (Or.inl ⟨by rfl, ?_⟩) (by assumption) ?_
        rotate_left 1
        · (intro w hSw; (try dsimp only at hSw); go_simp; try with_reducible rfl)
        try simp only [List.getElem_toArray, List.getElem_cons_zero, List.getElem_cons_succ, Act.put, List.setIfInBounds_toArray, List.set_cons_zero, List.set_cons_succ]
        refine wpAnyH_take (i := 11) (v := ?_) rfl (by kernel_rfl) (by kernel_rfl) (by kernel_rfl) (fun _ _ _ h => h) (Or.inl ⟨by rfl, ?_⟩) (by assumption) ?_
        rotate_left 1
        · (intro w hSw; (try dsimp only at hSw); go_simp; try with_reducible rfl)
        try simp only [List.getElem_toArray, List.getElem_cons_zero, List.getElem_cons_succ, Act.put, List.setIfInBounds_toArray, List.set_cons_zero, List.set_cons_succ]
        refine wpAnyH_take (i := 12) (v := ?_) rfl (by kernel_rfl) (by kernel_rfl) (by kernel_rfl) (fun _ _ _ h => h) (Or.inl ⟨by rfl, ?_⟩) (by assumption) ?_
        rotate_left 1
        · (intro w hSw; (try dsimp only at hSw); go_simp; try with_reducible rfl)
        try simp only [List.getElem_toArray, List.getElem_cons_zero, List.getElem_cons_succ, Act.put, List.setIfInBounds_toArray, List.set_cons_zero, List.set_cons_succ]
        refine wpAnyH_take (i := 13) (v := ?_) rfl (by kernel_rfl) (by kernel_rfl) (by kernel_rfl) (fun _ _ _ h => h) (Or.inl ⟨by rfl, ?_⟩) (by assumption) ?_
        rotate_left 1
        · (intro w hSw; (try dsimp only at hSw); go_simp; try with_reducible rfl)
        try simp only [List.getElem_toArray, List.getElem_cons_zero, List.getElem_cons_succ, Act.put, List.setIfInBounds_toArray, List.set_cons_zero, List.set_cons_succ]
        refine wpAnyH_ready (rs := [14]) (by kernel_rfl) (by simp) ?_
        refine AllReadyH.cons rfl (fun K hK => ?_) AllReadyH.nil
        try simp only [List.getElem_toArray, List.getElem_cons_zero, List.getElem_cons_succ]
        go_simp
        refine hK.out _ _ ?_ (fun hHeld => ?_)
        · exact HC5.out.2
        clear hK K
        try simp only [List.getElem_toArray, List.getElem_cons_zero, List.getElem_cons_succ, Act.put, List.setIfInBounds_toArray, List.set_cons_zero, List.set_cons_succ]
        refine wpAnyH_ready (rs := [15]) (by kernel_rfl) (by simp) ?_
        refine AllReadyH.cons rfl (fun K hK => ?_) AllReadyH.nil
        try simp only [List.getElem_toArray, List.getElem_cons_zero, List.getElem_cons_succ]
        (go_simp; go_at_call 43; refine HFr.out.mono ?_; rintro e w2 ⟨rfl, b2⟩; have HB2 := Lib.hid (HB1n.out w2 b2); have HC2 := Lib.hid (HCk.out w2 b2); clear b2)
        refine hK.out _ _ ?_ (fun hHeld => ?_)
        · exact HC2.out
        clear hK K
        try simp only [List.getElem_toArray, List.getElem_cons_zero, List.getElem_cons_succ, Act.put, List.setIfInBounds_toArray, List.set_cons_zero, List.set_cons_succ]
        refine wpAnyH_take (i := 16) (v := ?_) rfl (by kernel_rfl) (by kernel_rfl) (by kernel_rfl) (fun _ _ _ h => h) (Or.inl ⟨by rfl, ?_⟩) (by assumption) ?_
        rotate_left 1
        · (intro w hSw; (try dsimp only at hSw); go_simp; try with_reducible rfl)
        try simp only [List.getElem_toArray, List.getElem_cons_zero, List.getElem_cons_succ, Act.put, List.setIfInBounds_toArray, List.set_cons_zero, List.set_cons_succ]
        refine wpAnyH_take (i := 17) (v := ?_) rfl (by kernel_rfl) (by kernel_rfl) (by kernel_rfl) (fun _ _ _ h => h) (Or.inl ⟨by rfl, ?_⟩) (by assumption) ?_
        rotate_left 1
        · (intro w hSw; (try dsimp only at hSw); go_simp; try with_reducible rfl)
        try simp only [List.getElem_toArray, List.getElem_cons_zero, List.getElem_cons_succ, Act.put, List.setIfInBounds_toArray, List.set_cons_zero, List.set_cons_succ]
        refine wpAnyH_take (i := 18) (v := ?_) rfl (by kernel_rfl) (by kernel_rfl) (by kernel_rfl) (fun _ _ _ h => h) (Or.inl ⟨by rfl, ?_⟩) (by assumption) ?_
        rotate_left 1
        · (intro w hSw; (try dsimp only at hSw); go_simp; try with_reducible rfl)
        try simp only [List.getElem_toArray, List.getElem_cons_zero, List.getElem_cons_succ, Act.put, List.setIfInBounds_toArray, List.set_cons_zero, List.set_cons_succ]
        refine wpAnyH_take (i := 19) (v := ?_) rfl (by kernel_rfl) (by kernel_rfl) (by kernel_rfl) (fun _ _ _ h => h) (Or.inl ⟨by rfl, ?_⟩) (by assumption) ?_
        rotate_left 1
        · (intro w hSw; (try dsimp only at hSw); go_simp; try with_reducible rfl)
        try simp only [List.getElem_toArray, List.getElem_cons_zero, List.getElem_cons_succ, Act.put, List.setIfInBounds_toArray, List.set_cons_zero, List.set_cons_succ]
        refine wpAnyH_take (i := 20) (v := ?_) rfl (by kernel_rfl) (by kernel_rfl) (by kernel_rfl) (fun _ _ _ h => h) (Or.inl ⟨by rfl, ?_⟩) (by assumption) ?_
        rotate_left 1
        · (intro w hSw; (try dsimp only at hSw); go_simp; try with_reducible rfl)
        try simp only [List.getElem_toArray, List.getElem_cons_zero, List.getElem_cons_succ, Act.put, List.setIfInBounds_toArray, List.set_cons_zero, List.set_cons_succ]
        refine wpAnyH_done (by kernel_rfl) ?_ _
        clear HFr HCk HC2 HC5 HB1n d0 d1 d2 d4 c4
        have hR2 := HH1.out.below HB2.out
        obtain ⟨e0, e1, e2, e3, e4, e5⟩ := hR2.cells
        have hf2 := hR2.froze 2
        have hf0i : ((fe : Int) != 0) = true := by simp; omega
        have HF : Hid (RefAt w2 B g r (.slice Ao r.opens.length co) vw ∧ Only (RIn g (.slice Ao r.opens.length co) vw) w w2 ∧ Fresh w (.slice Ao r.opens.length co) (.slice Ao r.opens.length co)) := ⟨hR2, HV.out.1.trans (Only.of_below HB2.out), Fresh.refl _ _⟩
        clear hR2 hf0 HV HB2 HH1 e0 e1 e2 e3 e4 e5 hf2
        go_wp2
        go_ret2
        exact ⟨.slice Ao r.opens.length co, rfl, HF.out⟩
end Go.Proofs.YtiodphkmllcjdaaGreat.L7
end

section
namespace Go.Proofs.YtiodphkmllcjdaaGreat.L7
open Go.ChangeShapes Go.WideShapes Go.ChangeAt Go.RowKit L6

def frI (r : RSt) (i : Nat × Bytes) : Bytes := (frameL r.me r.peer 1 i.1 [i.2]).1
theorem flatI_get {l : List (Nat × Bytes)} {i : Nat} {a : Nat × Bytes} (h : l[i]? = some a) : (flatI l)[i * 2]? = some (.int .i64 a.1) ∧ (flatI l)[i * 2 + 1]? = some (.string ⟨a.2.toArray⟩) := by
  induction l generalizing i with
  | nil => simp at h
  | cons x l ih =>
    have e : flatI (x :: l) = (.int .i64 x.1) :: (.string ⟨x.2.toArray⟩) :: flatI l := by simp [flatI]
    rw [e]
    cases i with
    | zero =>
      simp at h
      subst h
      exact ⟨rfl, rfl⟩
    | succ i =>
      have := ih (i := i) (by simpa using h)
      rw [show (i + 1) * 2 = i * 2 + 1 + 1 by omega, show i * 2 + 1 + 1 + 1 = (i * 2 + 1) + 1 + 1 by omega]
      simpa using this
def RAgOut (w : World) (r : RSt) (e : Ending) (w' : World) : Prop := ∃ v, e = .returned v ∧ w'.ownsRow w.heap.size 9 1 v r.opens.length (strs (r.opens.map (frI r))) ∧ Below w.heap.size w w'
def RAgGo (w : World) (r : RSt) (k : Nat) (v3 v4 : Value) (wr : World) : Prop := ∃ i : Nat, k + i = r.opens.length ∧ v4 = .int .i64 i ∧ wr.ownsRow w.heap.size 9 1 v3 i (strs ((r.opens.map (frI r)).take i)) ∧ Below w.heap.size w wr
set_option maxRecDepth 100000 in
set_option maxHeartbeats 4000000 in
theorem ragain_calls {w : World} {B g : Nat} {r : RSt} {vo vw : Value} (h : RefAt w B g r vo vw) (h1 : 1 ≤ r.me) (h8 : r.me ≤ 8) (hp8 : r.peer ≤ 8) (ho : r.opens.length ≤ 64)
    (hsm : ∀ i ∈ r.opens, (fmsg r.peer 1 i.1 [i.2]).pack.1.length ≤ 10000 ∧ i.2.length ≤ 100000) :
    Calls Tryz.prog 23 #[.pointer (some ⟨g, 0, none⟩)] w (RAgOut w r) := by
  obtain ⟨i1, hj, hy0, hy1, hy2⟩ := info_parts info_string
  obtain ⟨c0, c1, c2, c3, c4, c5⟩ := h.cells
  have H0 : Hid (RAgGo w r r.opens.length (.slice none 0 0) (.int .i64 0) w) := ⟨0, by omega, rfl, ⟨rfl, .inl ⟨rfl, rfl⟩⟩, Below.refl _ _⟩
  have HH := Lib.hid h
  obtain ⟨Ao, co, rfl⟩ : ∃ A c, vo = .slice A r.opens.length c := by
    rcases h.opens.2 with ⟨rfl, h0⟩ | ⟨q, cap, cur, rfl, _⟩
    · exact ⟨none, 0, by rw [h0]⟩
    · exact ⟨_, cap, rfl⟩
  have hgw := h.lt
  clear h c2 c3 c5
  go_enter Tryz.func23, Tryz.ntmps23
  go_wp2
  go_loopg [3, 4] r.opens.length (fun k v3 v4 wr => RAgGo w r k v3 v4 wr)
  case atStart => exact H0.out
  case round =>
    obtain ⟨i, hk, rfl, hrow, hB⟩ := hrel
    obtain ⟨A3, c3, rfl⟩ := L5.own_slice hrow
    have d4 := (hB.cell (p := ⟨g, 4, none⟩) hgw).trans c4
    by_cases hlt : i < r.opens.length
    · obtain ⟨⟨nn, bb⟩, ha⟩ : ∃ a, r.opens[i]? = some a := ⟨_, List.getElem?_eq_getElem hlt⟩
      obtain ⟨f0, f1⟩ := flatI_get ha
      obtain ⟨q, rfl⟩ : ∃ q, Ao = some ⟨q, 0, none⟩ := by
        rcases HH.out.opens.2 with ⟨e, h0⟩ | ⟨q, cap, cur, e, _⟩
        · omega
        · cases e; exact ⟨q, rfl⟩
      have hqw : q < w.heap.size := (HH.out.opens.lt q rfl).2
      have k0 := HH.out.opens.cells (g := q) rfl _ _ f0
      have k1 := HH.out.opens.cells (g := q) rfl _ _ f1
      rw [add_zero_at] at k0 k1
      have hmem := List.mem_of_getElem? ha
      have hsmi := hsm _ hmem
      have j1 : (i : Int) < (r.opens.length : Int) := by omega
      have j2 : (0 : Int) ≤ (i : Int) := by omega
      have hi64 : i ≤ 64 := by omega
      have HCk : Hid (∀ V, Below wr.heap.size wr V → V.cell? ⟨g, 0, none⟩ = some (.int .i64 r.me) ∧ V.cell? ⟨g, 1, none⟩ = some (.int .i64 r.peer) ∧ V.cell? ⟨g, 4, none⟩ = some (.slice (some ⟨q, 0, none⟩) r.opens.length co) ∧ V.cell? ⟨q, i * 2, none⟩ = some (.int .i64 nn) ∧ V.cell? ⟨q, i * 2 + 1, none⟩ = some (.string ⟨bb.toArray⟩)) := fun V hV => by
        have hb := hB.trans (hV.mono hB.size)
        exact ⟨(hb.cell (p := ⟨g, 0, none⟩) hgw).trans c0, (hb.cell (p := ⟨g, 1, none⟩) hgw).trans c1, (hb.cell (p := ⟨g, 4, none⟩) hgw).trans c4, (hb.cell (p := ⟨q, i * 2, none⟩) hqw).trans k0, (hb.cell (p := ⟨q, i * 2 + 1, none⟩) hqw).trans k1⟩
      have HbA : Hid (Below wr.heap.size wr (wr.drew.alloc (.cells #[.string ⟨bb.toArray⟩] 9))) := (Below.refl _ wr).drew.alloc (Nat.le_refl _) _
      have hfr := frame7_calls h1 h8 hp8 1 nn (.slice (some ⟨wr.heap.size, 0, none⟩) 1 1) [bb] (wr.drew.alloc (.cells #[.string ⟨bb.toArray⟩] 9)) (rowA_one (World.alloc_heap_new wr.drew _) (by have h2 : bb.length ≤ 100000 := hsmi.2; unfold maxLen; omega)) (fun n c e => by cases e) (by simp) hsmi.1
      have HFr := Lib.hid hfr
      have HB1n : Hid (∀ w2, Below (wr.drew.alloc (.cells #[.string ⟨bb.toArray⟩] 9)).heap.size (wr.drew.alloc (.cells #[.string ⟨bb.toArray⟩] 9)) w2 → Below wr.heap.size wr w2) := fun w2 b => HbA.out.trans (b.mono HbA.out.size)
      have HNext : Hid (∀ w2, Below wr.heap.size wr w2 → w2.ownsRow w.heap.size 9 1 (.slice A3 i c3) i (strs ((r.opens.map (frI r)).take i)) ∧ w.heap.size ≤ w2.heap.size ∧ ∀ v7 w7, w7.ownsRow w.heap.size 9 1 v7 (i + 1) (strs ((r.opens.map (frI r)).take i) ++ [.string ⟨(frameL r.me r.peer 1 nn [bb]).1.toArray⟩]) → (w2.alloc (.cells #[.string ⟨(frameL r.me r.peer 1 nn [bb]).1.toArray⟩] 9)).grownBy w7 (Value.slice A3 i c3).ownBlock → RAgGo w r (r.opens.length - (i + 1)) v7 (.int .i64 ((i : Int) + 1)) w7) := fun w2 b2 => by
        have hr2 := L5.own_below hrow b2
        have hb := hB.trans (b2.mono hB.size)
        refine ⟨hr2, hb.size, fun v7 w7 k1 k2 => ⟨i + 1, by omega, rfl, ?_, ?_⟩⟩
        · have e : (r.opens.map (frI r)).take (i + 1) = (r.opens.map (frI r)).take i ++ [(frameL r.me r.peer 1 nn [bb]).1] := by
            rw [List.take_add_one, List.getElem?_map, ha]
            rfl
          rw [e]
          simpa [strs] using k1
        · exact hb.grown (L5.grow_trans (World.grownBy_alloc w2 _ _) k2) hb.size (fun k e => (hrow.lt k e).1)
      have hmeas := Lib.hid (show r.opens.length - (i + 1) < gk by omega)
      obtain ⟨⟨ft, fe⟩, hfe⟩ : ∃ fr, frameL r.me r.peer 1 nn [bb] = fr := ⟨_, rfl⟩
      rw [hfe] at HFr HNext
      unfold Pair2 at HFr
      dsimp only at HFr HNext
      clear hfr hfe hrow hB hk ha f0 f1 k0 k1 hmem hsmi H0
      go_wp2
      refine wp_region_held_drew (S := (fun w' => w'.cell? ⟨g, 0, none⟩ = some (.int .i64 r.me) ∧ w'.cell? ⟨g, 1, none⟩ = some (.int .i64 r.peer) ∧ w'.cell? ⟨g, 4, none⟩ = some (.slice (some ⟨q, 0, none⟩) r.opens.length co) ∧ w'.cell? ⟨q, i * 2, none⟩ = some (.int .i64 nn) ∧ w'.cell? ⟨q, i * 2 + 1, none⟩ = some (.string ⟨bb.toArray⟩))) (by kernel_rfl) ?_ (fun hHeld => ?_)
      · exact HCk.out _ (Below.refl _ wr).drew
      refine wpAnyH_take (i := 0) (v := ?_) rfl (by kernel_rfl) (by kernel_rfl) (by kernel_rfl) (fun _ _ _ h => h) (Or.inl ⟨by rfl, ?_⟩) (by assumption) ?_
      rotate_left 1
      · (intro w hSw; (try dsimp only at hSw); go_simp; try with_reducible rfl)
      try simp only [List.getElem_toArray, List.getElem_cons_zero, Act.put, List.setIfInBounds_toArray, List.set_cons_zero, List.set_cons_succ]
      refine wpAnyH_take (i := 1) (v := ?_) rfl (by kernel_rfl) (by kernel_rfl) (by kernel_rfl) (fun _ _ _ h => h) (Or.inl ⟨by rfl, ?_⟩) (by assumption) ?_
      rotate_left 1
      · (intro w hSw; (try dsimp only at hSw); go_simp; try with_reducible rfl)
      try simp only [List.getElem_toArray, List.getElem_cons_zero, List.getElem_cons_succ, Act.put, List.setIfInBounds_toArray, List.set_cons_zero, List.set_cons_succ]
      refine wpAnyH_take (i := 2) (v := ?_) rfl (by kernel_rfl) (by kernel_rfl) (by kernel_rfl) (fun _ _ _ h => h) (Or.inl ⟨by rfl, ?_⟩) (by assumption) ?_
      rotate_left 1
      · (intro w hSw; (try dsimp only at hSw); go_simp; try with_reducible rfl)
      try simp only [List.getElem_toArray, List.getElem_cons_zero, List.getElem_cons_succ, Act.put, List.setIfInBounds_toArray, List.set_cons_zero, List.set_cons_succ]
      refine wpAnyH_take (i := 3) (v := ?_) rfl (by kernel_rfl) (by kernel_rfl) (by kernel_rfl) (fun _ _ _ h => h) (Or.inl ⟨by rfl, ?_⟩) (by assumption) ?_
      rotate_left 1
      · (intro w hSw; (try dsimp only at hSw); go_simp; try with_reducible rfl)
      try simp only [List.getElem_toArray, List.getElem_cons_zero, List.getElem_cons_succ, Act.put, List.setIfInBounds_toArray, List.set_cons_zero, List.set_cons_succ]
      refine wpAnyH_take (i := 4) (v := ?_) rfl (by kernel_rfl) (by kernel_rfl) (by kernel_rfl) (fun _ _ _ h => h) (Or.inl ⟨by rfl, ?_⟩) (by assumption) ?_
      rotate_left 1
      · (intro w hSw; (try dsimp only at hSw); go_simp; try with_reducible rfl)
      try simp only [List.getElem_toArray, List.getElem_cons_zero, List.getElem_cons_succ, Act.put, List.setIfInBounds_toArray, List.set_cons_zero, List.set_cons_succ]
      refine wpAnyH_take (i := 5) (v := ?_) rfl (by kernel_rfl) (by kernel_rfl) (by kernel_rfl) (fun _ _ _ h => h) (Or.inl ⟨by rfl, ?_⟩) (by assumption) ?_
      rotate_left 1
      · (intro w hSw; (try dsimp only at hSw); go_simp; try with_reducible rfl)
      try simp only [List.getElem_toArray, List.getElem_cons_zero, List.getElem_cons_succ, Act.put, List.setIfInBounds_toArray, List.set_cons_zero, List.set_cons_succ]
      refine wpAnyH_take (i := 6) (v := ?_) rfl (by kernel_rfl) (by kernel_rfl) (by kernel_rfl) (fun _ _ _ h => h) (Or.inl ⟨by rfl, ?_⟩) (by assumption) ?_
      rotate_left 1
      · (intro w hSw; (try dsimp only at hSw); go_simp; try with_reducible rfl)
      try simp only [List.getElem_toArray, List.getElem_cons_zero, List.getElem_cons_succ, Act.put, List.setIfInBounds_toArray, List.set_cons_zero, List.set_cons_succ]
      refine wpAnyH_take (i := 7) (v := ?_) rfl (by kernel_rfl) (by kernel_rfl) (by kernel_rfl) (fun _ _ _ h => h) (Or.inl ⟨by rfl, ?_⟩) (by assumption) ?_
      rotate_left 1
      · (intro w hSw; (try dsimp only at hSw); go_simp; try with_reducible rfl)
      try simp only [List.getElem_toArray, List.getElem_cons_zero, List.getElem_cons_succ, Act.put, List.setIfInBounds_toArray, List.set_cons_zero, List.set_cons_succ]
      refine wpAnyH_take (i := 8) (v := ?_) rfl (by kernel_rfl) (by kernel_rfl) (by kernel_rfl) (fun _ _ _ h => h) (Or.inl ⟨by rfl, ?_⟩) (by assumption) ?_
      rotate_left 1
      · (intro w hSw; (try dsimp only at hSw); go_simp; try with_reducible rfl)
      try simp only [List.getElem_toArray, List.getElem_cons_zero, List.getElem_cons_succ, Act.put, List.setIfInBounds_toArray, List.set_cons_zero, List.set_cons_succ]
      refine wpAnyH_take (i := 9) (v := ?_) rfl (by kernel_rfl) (by kernel_rfl) (by kernel_rfl) (fun _ _ _ h => h) (Or.inl ⟨by rfl, ?_⟩) (by assumption) ?_
      rotate_left 1
      · (intro w hSw; (try dsimp only at hSw); go_simp; try with_reducible rfl)
      try simp only [List.getElem_toArray, List.getElem_cons_zero, List.getElem_cons_succ, Act.put, List.setIfInBounds_toArray, List.set_cons_zero, List.set_cons_succ]
      refine wpAnyH_take (i := 10) (v := ?_) rfl (by kernel_rfl) (by kernel_rfl) (by kernel_rfl) (fun _ _ _ h => h) (Or.inl ⟨by rfl, ?_⟩) (by assumption) ?_
      rotate_left 1
      · (intro w hSw; (try dsimp only at hSw); go_simp; try with_reducible rfl)
      try simp only [List.getElem_toArray, List.getElem_cons_zero, List.getElem_cons_succ, Act.put, List.setIfInBounds_toArray, List.set_cons_zero, List.set_cons_succ]
      refine wpAnyH_take (i := 11) (v := ?_) rfl (by kernel_rfl) (by kernel_rfl) (by kernel_rfl) (fun _ _ _ h => h) (Or.inl ⟨by rfl, ?_⟩) (by assumption) ?_
      rotate_left 1
      · (intro w hSw; (try dsimp only at hSw); go_simp; try with_reducible rfl)
      try simp only [List.getElem_toArray, List.getElem_cons_zero, List.getElem_cons_succ, Act.put, List.setIfInBounds_toArray, List.set_cons_zero, List.set_cons_succ]
      refine wpAnyH_take (i := 12) (v := ?_) rfl (by kernel_rfl) (by kernel_rfl) (by kernel_rfl) (fun _ _ _ h => h) (Or.inl ⟨by rfl, ?_⟩) (by assumption) ?_
      rotate_left 1
      · (intro w hSw; (try dsimp only at hSw); go_simp; try with_reducible rfl)
      try simp only [List.getElem_toArray, List.getElem_cons_zero, List.getElem_cons_succ, Act.put, List.setIfInBounds_toArray, List.set_cons_zero, List.set_cons_succ]
      refine wpAnyH_take (i := 13) (v := ?_) rfl (by kernel_rfl) (by kernel_rfl) (by kernel_rfl) (fun _ _ _ h => h) (Or.inl ⟨by rfl, ?_⟩) (by assumption) ?_
      rotate_left 1
      · (intro w hSw; (try dsimp only at hSw); go_simp; try with_reducible rfl)
      try simp only [List.getElem_toArray, List.getElem_cons_zero, List.getElem_cons_succ, Act.put, List.setIfInBounds_toArray, List.set_cons_zero, List.set_cons_succ]
      refine wpAnyH_take (i := 14) (v := ?_) rfl (by kernel_rfl) (by kernel_rfl) (by kernel_rfl) (fun _ _ _ h => h) (Or.inl ⟨by rfl, ?_⟩) (by assumption) ?_
      rotate_left 1
      · (intro w hSw; (try dsimp only at hSw); go_simp; try with_reducible rfl)
      try simp only [List.getElem_toArray, List.getElem_cons_zero, List.getElem_cons_succ, Act.put, List.setIfInBounds_toArray, List.set_cons_zero, List.set_cons_succ]
      refine wpAnyH_take (i := 15) (v := ?_) rfl (by kernel_rfl) (by kernel_rfl) (by kernel_rfl) (fun _ _ _ h => h) (Or.inl ⟨by rfl, ?_⟩) (by assumption) ?_
      rotate_left 1
      · (intro w hSw; (try dsimp only at hSw); go_simp; try with_reducible rfl)
      try simp only [List.getElem_toArray, List.getElem_cons_zero, List.getElem_cons_succ, Act.put, List.setIfInBounds_toArray, List.set_cons_zero, List.set_cons_succ]
      refine wpAnyH_take (i := 16) (v := ?_) rfl (by kernel_rfl) (by kernel_rfl) (by kernel_rfl) (fun _ _ _ h => h) (Or.inl ⟨by rfl, ?_⟩) (by assumption) ?_
      rotate_left 1
      · (intro w hSw; (try dsimp only at hSw); go_simp; try with_reducible rfl)
      try simp only [List.getElem_toArray, List.getElem_cons_zero, List.getElem_cons_succ, Act.put, List.setIfInBounds_toArray, List.set_cons_zero, List.set_cons_succ]
      refine wpAnyH_take (i := 17) (v := ?_) rfl (by kernel_rfl) (by kernel_rfl) (by kernel_rfl) (fun _ _ _ h => h) (Or.inl ⟨by rfl, ?_⟩) (by assumption) ?_
      rotate_left 1
      · (intro w hSw; (try dsimp only at hSw); go_simp; try with_reducible rfl)
      try simp only [List.getElem_toArray, List.getElem_cons_zero, List.getElem_cons_succ, Act.put, List.setIfInBounds_toArray, List.set_cons_zero, List.set_cons_succ]
      refine wpAnyH_take (i := 18) (v := ?_) rfl (by kernel_rfl) (by kernel_rfl) (by kernel_rfl) (fun _ _ _ h => h) (Or.inl ⟨by rfl, ?_⟩) (by assumption) ?_
      rotate_left 1
      · (intro w hSw; (try dsimp only at hSw); go_simp; try with_reducible rfl)
      try simp only [List.getElem_toArray, List.getElem_cons_zero, List.getElem_cons_succ, Act.put, List.setIfInBounds_toArray, List.set_cons_zero, List.set_cons_succ]
      refine wpAnyH_take (i := 19) (v := ?_) rfl (by kernel_rfl) (by kernel_rfl) (by kernel_rfl) (fun _ _ _ h => h) (Or.inl ⟨by rfl, ?_⟩) (by assumption) ?_
      rotate_left 1
      · (intro w hSw; (try dsimp only at hSw); go_simp; try with_reducible rfl)
      try simp only [List.getElem_toArray, List.getElem_cons_zero, List.getElem_cons_succ, Act.put, List.setIfInBounds_toArray, List.set_cons_zero, List.set_cons_succ]
      refine wpAnyH_take (i := 20) (v := ?_) rfl (by kernel_rfl) (by kernel_rfl) (by kernel_rfl) (fun _ _ _ h => h) (Or.inl ⟨by rfl, ?_⟩) (by assumption) ?_
      rotate_left 1
      · (intro w hSw; (try dsimp only at hSw); go_simp; try with_reducible rfl)
      try simp only [List.getElem_toArray, List.getElem_cons_zero, List.getElem_cons_succ, Act.put, List.setIfInBounds_toArray, List.set_cons_zero, List.set_cons_succ]
      refine wpAnyH_take (i := 21) (v := ?_) rfl (by kernel_rfl) (by kernel_rfl) (by kernel_rfl) (fun _ _ _ h => h) (Or.inl ⟨by rfl, ?_⟩) (by assumption) ?_
      rotate_left 1
      · (intro w hSw; (try dsimp only at hSw); go_simp; try with_reducible rfl)
      try simp only [List.getElem_toArray, List.getElem_cons_zero, List.getElem_cons_succ, Act.put, List.setIfInBounds_toArray, List.set_cons_zero, List.set_cons_succ]
      refine wpAnyH_take (i := 22) (v := ?_) rfl (by kernel_rfl) (by kernel_rfl) (by kernel_rfl) (fun _ _ _ h => h) (Or.inl ⟨by rfl, ?_⟩) (by assumption) ?_
      rotate_left 1
      · (intro w hSw; (try dsimp only at hSw); go_simp; try with_reducible rfl)
      try simp only [List.getElem_toArray, List.getElem_cons_zero, List.getElem_cons_succ, Act.put, List.setIfInBounds_toArray, List.set_cons_zero, List.set_cons_succ]
      refine wpAnyH_take (i := 23) (v := ?_) rfl (by kernel_rfl) (by kernel_rfl) (by kernel_rfl) (fun _ _ _ h => h) (Or.inl ⟨by rfl, ?_⟩) (by assumption) ?_
      rotate_left 1
      · (intro w hSw; (try dsimp only at hSw); go_simp; try with_reducible rfl)
      try simp only [List.getElem_toArray, List.getElem_cons_zero, List.getElem_cons_succ, Act.put, List.setIfInBounds_toArray, List.set_cons_zero, List.set_cons_succ]
      refine wpAnyH_ready (rs := [24]) (by kernel_rfl) (by simp) ?_
      refine AllReadyH.cons rfl (fun K hK => ?_) AllReadyH.nil
      try simp only [List.getElem_toArray, List.getElem_cons_zero, List.getElem_cons_succ]
      go_simp
      refine hK.out _ _ ?_ (fun hHeld => ?_)
      · exact HCk.out _ HbA.out
      clear hK K
      try simp only [List.getElem_toArray, List.getElem_cons_zero, List.getElem_cons_succ, Act.put, List.setIfInBounds_toArray, List.set_cons_zero, List.set_cons_succ]
      refine wpAnyH_ready (rs := [25]) (by kernel_rfl) (by simp) ?_
      refine AllReadyH.cons rfl (fun K hK => ?_) AllReadyH.nil
      try simp only [List.getElem_toArray, List.getElem_cons_zero, List.getElem_cons_succ]
      (go_simp; go_at_call 43; refine HFr.out.mono ?_; rintro e w2 ⟨rfl, b2⟩; have HB2 := Lib.hid (HB1n.out w2 b2); clear b2)
      refine hK.out _ _ ?_ (fun hHeld => ?_)
      · exact HCk.out _ HB2.out
      clear hK K
      try simp only [List.getElem_toArray, List.getElem_cons_zero, List.getElem_cons_succ, Act.put, List.setIfInBounds_toArray, List.set_cons_zero, List.set_cons_succ]
      refine wpAnyH_take (i := 26) (v := ?_) rfl (by kernel_rfl) (by kernel_rfl) (by kernel_rfl) (fun _ _ _ h => h) (Or.inl ⟨by rfl, ?_⟩) (by assumption) ?_
      rotate_left 1
      · (intro w hSw; (try dsimp only at hSw); go_simp; try with_reducible rfl)
      try simp only [List.getElem_toArray, List.getElem_cons_zero, List.getElem_cons_succ, Act.put, List.setIfInBounds_toArray, List.set_cons_zero, List.set_cons_succ]
      refine wpAnyH_take (i := 27) (v := ?_) rfl (by kernel_rfl) (by kernel_rfl) (by kernel_rfl) (fun _ _ _ h => h) (Or.inl ⟨by rfl, ?_⟩) (by assumption) ?_
      rotate_left 1
      · (intro w hSw; (try dsimp only at hSw); go_simp; try with_reducible rfl)
      try simp only [List.getElem_toArray, List.getElem_cons_zero, List.getElem_cons_succ, Act.put, List.setIfInBounds_toArray, List.set_cons_zero, List.set_cons_succ]
      refine wpAnyH_take (i := 28) (v := ?_) rfl (by kernel_rfl) (by kernel_rfl) (by kernel_rfl) (fun _ _ _ h => h) (Or.inl ⟨by rfl, ?_⟩) (by assumption) ?_
      rotate_left 1
      · (intro w hSw; (try dsimp only at hSw); go_simp; try with_reducible rfl)
      try simp only [List.getElem_toArray, List.getElem_cons_zero, List.getElem_cons_succ, Act.put, List.setIfInBounds_toArray, List.set_cons_zero, List.set_cons_succ]
      refine wpAnyH_take (i := 29) (v := ?_) rfl (by kernel_rfl) (by kernel_rfl) (by kernel_rfl) (fun _ _ _ h => h) (Or.inl ⟨by rfl, ?_⟩) (by assumption) ?_
      rotate_left 1
      · (intro w hSw; (try dsimp only at hSw); go_simp; try with_reducible rfl)
      try simp only [List.getElem_toArray, List.getElem_cons_zero, List.getElem_cons_succ, Act.put, List.setIfInBounds_toArray, List.set_cons_zero, List.set_cons_succ]
      refine wpAnyH_take (i := 30) (v := ?_) rfl (by kernel_rfl) (by kernel_rfl) (by kernel_rfl) (fun _ _ _ h => h) (Or.inl ⟨by rfl, ?_⟩) (by assumption) ?_
      rotate_left 1
      · (intro w hSw; (try dsimp only at hSw); go_simp; try with_reducible rfl)
      try simp only [List.getElem_toArray, List.getElem_cons_zero, List.getElem_cons_succ, Act.put, List.setIfInBounds_toArray, List.set_cons_zero, List.set_cons_succ]
      refine wpAnyH_done (by kernel_rfl) ?_ _
      obtain ⟨hr2, hsz2, hnx⟩ := HNext.out w2 HB2.out
      have HR2 := Lib.hid hr2
      have HN := Lib.hid hnx
      clear hr2 hnx HNext HFr HCk HbA HB1n HB2 d4
      go_wp2_with (at_builtin; refine wpList_append_own_at _ rfl _ _ 48 rfl (w.heap.size) 9 i1 _ 1 16 Tryz.underlying48 hj hy0 hy1 hy2 rfl (by decide) _ _ _ rfl (HR2.out.alloc _) ⟨w2.heap.size, 0, none⟩ 1 1 [.string ⟨ft.toArray⟩] rfl rfl (cell_one_new _ _ _) (by simp [Value.oneCell']) (by unfold maxLen; omega) (by omega) (by simp; omega) ?_; intro v7 w7 hown' hgrow hnil hat; have HF := Lib.hid (HN.out v7 w7 hown' hgrow); clear hown' hgrow hnil hat)
      go_roundg (r.opens.length - (i + 1))
      case measure => exact hmeas.out
      case rel => exact HF.out
    · have j1 : ¬ (i : Int) < (r.opens.length : Int) := by omega
      have HF : Hid (RAgOut w r (.returned (.slice A3 i c3)) wr) := by
        obtain rfl : i = r.opens.length := by omega
        refine ⟨_, rfl, ?_, hB⟩
        rw [List.take_of_length_le (by simp)] at hrow
        exact hrow
      clear hrow hB hk H0
      go_wp2
      go_ret
      exact HF.out
end Go.Proofs.YtiodphkmllcjdaaGreat.L7
end

section
namespace Go.Proofs.YtiodphkmllcjdaaGreat.L7
open Go.ChangeShapes Go.WideShapes Go.ChangeAt Go.RowKit L6

/-- The place of the first one of a number. -/
def widx (l : List (Nat × Bytes)) (n : Nat) : Option Nat := l.findIdx? (fun a => decide (a.1 = n))
def wval : Option Nat → Int
  | some i => i
  | none => -1
theorem widx_some {l : List (Nat × Bytes)} {n i : Nat} {a : Nat × Bytes} (h : l[i]? = some a) (ha : a.1 = n) (hp : ∀ (j : Nat) (b : Nat × Bytes), j < i → l[j]? = some b → b.1 ≠ n) : widx l n = some i := by
  unfold widx
  rw [List.findIdx?_eq_some_iff_getElem]
  obtain ⟨hi, e⟩ := List.getElem?_eq_some_iff.1 h
  refine ⟨hi, by rw [e]; simp [ha], fun j hj => ?_⟩
  have := hp j _ hj (List.getElem?_eq_getElem (by omega))
  simpa using this
theorem widx_none {l : List (Nat × Bytes)} {n : Nat} (hp : ∀ (j : Nat) (b : Nat × Bytes), l[j]? = some b → b.1 ≠ n) : widx l n = none := by
  unfold widx
  rw [List.findIdx?_eq_none_iff]
  intro a ha
  obtain ⟨j, hj⟩ := List.mem_iff_getElem?.1 ha
  simpa using hp j a hj
theorem widx_is {l : List (Nat × Bytes)} {n i : Nat} (h : widx l n = some i) : ∃ b, l[i]? = some (n, b) := by
  unfold widx at h
  rw [List.findIdx?_eq_some_iff_getElem] at h
  obtain ⟨hi, e, _⟩ := h
  refine ⟨(l[i]).2, ?_⟩
  rw [List.getElem?_eq_getElem hi]
  have : (l[i]).1 = n := by simpa using e
  rw [← this]
theorem widx_not {l : List (Nat × Bytes)} {n : Nat} (h : widx l n = none) : ∀ a ∈ l, a.1 ≠ n := by
  unfold widx at h
  rw [List.findIdx?_eq_none_iff] at h
  intro a ha
  simpa using h a ha
def WaitsGo (w : World) (l : List (Nat × Bytes)) (n : Nat) (k : Nat) (v5 : Value) (wr : World) : Prop := ∃ i : Nat, k + i = l.length ∧ v5 = .int .i64 i ∧ (∀ (j : Nat) (b : Nat × Bytes), j < i → l[j]? = some b → b.1 ≠ n) ∧ w = wr
/-- Where an item of a row lies. -/
theorem items_at {W : World} {B : Nat} {v : Value} {l : List (Nat × Bytes)} (h : W.ownsRow B 102 2 v l.length (flatI l)) : ∃ A c, v = .slice A l.length c ∧ ∀ i a, l[i]? = some a → ∃ q, A = some ⟨q, 0, none⟩ ∧ B ≤ q ∧ q < W.heap.size ∧ W.cell? ⟨q, i * 2, none⟩ = some (.int .i64 a.1) ∧ W.cell? ⟨q, i * 2 + 1, none⟩ = some (.string ⟨a.2.toArray⟩) := by
  rcases h.2 with ⟨rfl, h0⟩ | ⟨q, cap, cur, rfl, hb, _⟩
  · exact ⟨none, 0, by rw [h0], fun i a ha => by have := (List.getElem?_eq_some_iff.1 ha).1; omega⟩
  · refine ⟨some ⟨q, 0, none⟩, cap, rfl, fun i a ha => ⟨q, rfl, hb, (h.lt q rfl).2, ?_⟩⟩
    obtain ⟨f0, f1⟩ := flatI_get ha
    have k0 := h.cells (g := q) rfl _ _ f0
    have k1 := h.cells (g := q) rfl _ _ f1
    rw [add_zero_at] at k0 k1
    exact ⟨k0, k1⟩
set_option maxRecDepth 100000 in
set_option maxHeartbeats 2000000 in
theorem waits_calls {w : World} {B g : Nat} {r : RSt} {vo vw : Value} (h : RefAt w B g r vo vw) (hl : r.wait.length ≤ 1000) (n : Nat) :
    Calls Tryz.prog 71 #[.pointer (some ⟨g, 0, none⟩), .int .i64 n] w fun e w' => e = .returned (.int .i64 (wval (widx r.wait n))) ∧ w = w' := by
  obtain ⟨_, _, _, _, _, c5⟩ := h.cells
  obtain ⟨A, c, rfl, hit⟩ := items_at h.wait
  have HI := Lib.hid hit
  generalize r.wait = l at *
  clear h hit
  go_enter Tryz.func71, Tryz.ntmps71
  go_wp2
  go_loopg [5] l.length (fun k v5 wr => WaitsGo w l n k v5 wr)
  case atStart => exact ⟨0, by omega, rfl, fun j b hj => by omega, rfl⟩
  case round =>
    obtain ⟨i, hk, rfl, hp, rfl⟩ := hrel
    by_cases hi : i < l.length
    · obtain ⟨a, ha⟩ : ∃ a, l[i]? = some a := ⟨_, List.getElem?_eq_getElem hi⟩
      obtain ⟨q, rfl, _, _, k0, _⟩ := HI.out i a ha
      have i1 : (i : Int) < (l.length : Int) := by omega
      have i2 : (0 : Int) ≤ (i : Int) := by omega
      have HM := Lib.hid (show l.length - (i + 1) < gk by omega)
      by_cases hx : a.1 = n
      · have hx1 : ((a.1 : Int) == (n : Int)) = true := by rw [beq_iff_eq]; omega
        have HF : Hid (wval (widx l n) = (i : Int)) := (by rw [widx_some ha hx hp]; rfl : wval (widx l n) = (i : Int))
        clear hk hp ha hx
        go_wp2
        go_ret
        exact ⟨by rw [HF.out]; rfl, rfl⟩
      · have hx1 : ((a.1 : Int) == (n : Int)) = false := by rw [beq_eq_false_iff_ne]; omega
        have hx2 : ¬ (a.1 : Int) = (n : Int) := by omega
        have HF : Hid (WaitsGo w l n (l.length - (i + 1)) (.int .i64 ((i + 1 : Nat) : Int)) w) := ⟨i + 1, by omega, rfl, fun j b hj hb => by
          by_cases hji : j = i
          · subst hji; rw [ha] at hb; cases hb; exact hx
          · exact hp j b (by omega) hb, rfl⟩
        clear hk hp ha hx
        go_wp2
        go_roundg (l.length - (i + 1))
        case measure => exact HM.out
        case rel => simpa using HF.out
    · obtain rfl : i = l.length := by omega
      have i1 : ¬ ((l.length : Int) < (l.length : Int)) := by omega
      have HF : Hid (wval (widx l n) = -1) := (by rw [widx_none (fun j b hb => hp j b (List.getElem?_eq_some_iff.1 hb).1 hb)]; rfl : wval (widx l n) = -1)
      clear hk hp hi
      go_wp2
      go_ret
      exact ⟨by rw [HF.out]; rfl, rfl⟩
end Go.Proofs.YtiodphkmllcjdaaGreat.L7
end
