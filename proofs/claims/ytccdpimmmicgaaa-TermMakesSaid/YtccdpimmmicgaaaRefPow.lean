/- Contracts of the document's own Exponents and Power (gemotref1), beside the program's Power. -/
import Derived.Test.YtccdpimmmicgaaaRaised
namespace Go.Proofs.Ytccdpimmmicgaaa
open Go.ChangeShapes Go.WideShapes Go.ChangeAt Go.RowKit

set_option maxRecDepth 100000 in
set_option maxHeartbeats 4000000 in
theorem RExps_pow (s : ByteArray) (hs : s.size ≤ 20000) (ps : List (List UInt8)) (hps : ps.length ≤ 32) (hg : ∀ p ∈ ps, Tm.Good 400 20000 p) (hd : s.data.toList.drop 2 = ps.flatten) (ha : 2 ≤ s.size) (h0 : s[0] = 101) (w : World) :
    Calls Try.prog 59 #[.string s] w (ROfOut w ps) := by
  have HE := Lib.hid (End_calls s (by omega) 400 (by omega))
  have HG := Lib.hid hg
  obtain ⟨i0, hi, hz0, hz1, hz2⟩ := info_parts info_text
  have HI : Hid (RTelling s.data.toList ps w ps.length (.slice none 0 0) (.int .i64 2) w) :=
    ⟨[], ps, 2, rfl, rfl, rfl, hd, by rw [len_bytes]; exact ha, World.ownsRow_nil _ _ _ _, Below.refl _ _⟩
  have hsI : (s.size : Int) ≤ 20000 := by omega
  have HLen := Lib.hid (len_bytes s)
  have g0 : ((s[0].toNat : Int) == 101) = true := u8_yes (n := 101) (by omega) h0
  have i1 : (0 : Int) < (s.size : Int) := by omega
  have i2 : 0 < s.size := by omega
  clear hg hd h0
  go_enter Try.func59, Try.ntmps59
  go_wp2
  go_loopg [3, 4] ps.length (fun K v3 v4 wr => RTelling s.data.toList ps w K v3 v4 wr)
  case atStart => exact HI.out
  case round =>
    clear HI
    obtain ⟨pre, rest, at_, hK, hx, rfl, hdr, hat, hrow, hbel⟩ := hrel
    have HX := Lib.hid hx
    have HDr := Lib.hid hdr
    have HRw := Lib.hid hrow
    have hpl : pre.length + rest.length = ps.length := by rw [hx]; simp
    rw [HLen.out] at hat
    have hsz := hbel.size
    cases rest with
    | nil =>
      have hend : at_ = s.size := by
        have := congrArg List.length hdr
        rw [List.length_drop, HLen.out] at this
        simp at this
        omega
      have j1 : ¬ ((at_ : Int) < (s.size : Int)) := by omega
      have hpp : Hid (ps = pre) := by show _ = _; rw [hx]; simp
      clear hx hdr hrow hend hK
      have dj1 : decide ((at_ : Int) < (s.size : Int)) = false := by simp; omega
      go_wp2
      go_ret
      exact ⟨_, rfl, by rw [hpp.out]; exact HRw.out, hbel⟩
    | cons x rest =>
      have hGx := HG.out x (by rw [hx]; simp)
      obtain ⟨hpp, _⟩ := Tm.right_parse hGx.1
      have hst := Tm.parse_stable 400 x x.length _ hpp rest.flatten
      rw [List.take_length, ← List.flatten_cons, ← hdr] at hst
      have hxl := (Tm.right_ne_nil ((Tm.right_iff x).2 hGx.1)).2
      have hlen2 : x.length + rest.flatten.length = s.size - at_ := by
        have := congrArg List.length hdr
        rw [List.length_drop, HLen.out, List.flatten_cons, List.length_append] at this
        omega
      have cE : ∀ W, Calls Try.prog 65 #[.string s, .int .i64 at_, .int .i64 400] W (Drew W (.tuple #[.int .i64 (Tm.endI at_ (Tm.parse 400 (s.data.toList.drop at_))), .int .i64 (Tm.depI (Tm.parse 400 (s.data.toList.drop at_)))])) := fun W => HE.out at_ hat W
      rw [hst] at cE
      have eI : Tm.endI at_ (x.length, Tm.depthOf x, 0) = ((at_ + x.length : Nat) : Int) := by simp [Tm.endI]
      rw [eI] at cE
      generalize Tm.depI (x.length, Tm.depthOf x, 0) = dd at *
      have hex : s.extract at_ (at_ + x.length) = ⟨x.toArray⟩ := by
        rw [extract_eq, hdr, Nat.add_sub_cancel_left, List.flatten_cons, List.take_left]
      have hdr2 : s.data.toList.drop (at_ + x.length) = rest.flatten := by
        rw [← List.drop_drop, hdr, List.flatten_cons, List.drop_left]
      obtain ⟨en, hen⟩ : ∃ en, at_ + x.length = en := ⟨_, rfl⟩
      rw [hen] at cE hex hdr2
      have HC := Lib.hid cE
      have HD2 := Lib.hid hdr2
      have j1 : (at_ : Int) < (s.size : Int) := by omega
      have j2 : (0 : Int) ≤ (at_ : Int) := by omega
      have j3 : (at_ : Int) ≤ (en : Int) := by omega
      have j4 : (en : Int) ≤ (s.size : Int) := by omega
      have j5 : en ≤ s.size := by omega
      clear cE eI hst hpp hdr hrow hx hdr2 hGx hen hxl hlen2
      go_wp2_with (first
        | (go_at_call 65; refine (HC.out _).mono ?_; rintro e' w' ⟨rfl, md3, rfl⟩)
        | (at_builtin
           refine wpList_append_own _ rfl _ _ 32 rfl w.heap.size 9 i0 (.string ⟨#[]⟩) 1 16 Try.underlying32 hi hz0 hz1 hz2 rfl (by decide) _ pre.length (strs pre) rfl (World.ownsRow.alloc (w := wr.drewN md3) HRw.out _) ⟨wr.heap.size, 0, none⟩ 1 1 [.string ⟨x.toArray⟩] rfl rfl (cell_one_new _ _ _) (fun y hy => by simp at hy; subst hy; rfl) (by unfold maxLen; simp at hpl; omega) (by simp at hpl; omega) (by simp; omega) ?_
           intro v' w3 hown3 hgrow3 hnil3
           have X : Hid (w3.ownsRow w.heap.size 9 1 v' (pre.length + 1) (strs pre ++ [.string ⟨x.toArray⟩]) ∧ Below w.heap.size w w3) :=
             ⟨hown3, Below.grown ((below_drewN hbel md3).alloc (by simp; omega) _) hgrow3 (by simp; omega) (fun j hj => by have := (World.ownsRow.lt HRw.out _ hj).1; omega)⟩
           clear hown3 hgrow3 hnil3))
      go_roundg rest.length
      case measure => rw [hK]; simp
      case rel =>
        refine ⟨pre ++ [x], rest, en, rfl, by rw [HX.out]; simp, rfl, HD2.out, by rw [HLen.out]; exact j5, ?_, X.out.2⟩
        have e9 : strs (pre ++ [x]) = strs pre ++ [.string ⟨x.toArray⟩] := by simp [strs]
        rw [e9, List.length_append, List.length_singleton]
        exact X.out.1


set_option maxRecDepth 100000 in
set_option maxHeartbeats 1000000 in
theorem RExps_gen (s : ByteArray) (hp : 0 < s.size) (h0 : s[0] = 103) (w : World) : Calls Try.prog 59 #[.string s] w (ROfOut w []) := by
  have g0 : ((s[0].toNat : Int) == 101) = false := u8_no (n := 101) (by omega) (by rw [h0]; decide)
  have i1 : (0 : Int) < (s.size : Int) := by omega
  clear h0
  go_enter Try.func59, Try.ntmps59
  go_wp2
  refine wp_loop_rounds 1 ?_
  rw [rounds_succ]
  go_wp2
  go_ret
  exact ⟨_, rfl, World.ownsRow_nil _ _ _ _, Below.refl _ _⟩

theorem RExps_calls (s : ByteArray) (hr : Tm.right s.data.toList = true) (hel : Tm.element s.data.toList = true) (w : World) :
    Calls Try.prog 59 #[.string s] w (ROfOut w (Tm.expsOf s.data.toList)) := by
  obtain ⟨hne, hp⟩ := Tm.right_ne_nil hr
  rw [len_bytes] at hp
  have hg := getD_bytes s 0 hp
  have ho := Tm.ofL_exps hr hel
  obtain ⟨o1, o2, o3, o4, o5, o6⟩ := Tm.ofL_ok hr
  rw [len_bytes] at o6
  rcases (Tm.element_iff hne).1 hel with hk | hk
  · have : Tm.expsOf s.data.toList = [] := by unfold Tm.expsOf; rw [if_pos hk]
    rw [this]
    exact RExps_gen s hp (by rw [← hg]; exact hk) w
  · rw [← ho]
    obtain ⟨p1, p2, p3⟩ := Tm.right_power hr hk
    rw [len_bytes] at p1
    have hb := Tm.head_of_right hr
    have hh : Tm.headOf s.data.toList = (2, (s.data.toList.getD 1 0).toNat) := by
      have hh := Tm.headOf_ne hne
      rw [hk] at hh
      simp only [show ¬ ((101 : UInt8) = 103) from by decide, show ¬ ((101 : UInt8) = 110 ∨ (101 : UInt8) = 117) from by decide, show ¬ ((101 : UInt8) = 116) from by decide, show ¬ ((101 : UInt8) = 105) from by decide, if_false, if_true] at hh
      rw [hh, if_pos ⟨by rw [len_bytes]; exact p1, p2, p3⟩]
    rw [hb.1, hh] at o1
    exact RExps_pow s o6 _ (by rw [o3]; exact (Tm.begin_le _).2) (fun x hx => ⟨(o2 x hx).1, Tm.depthOf_le x, by have := (o2 x hx).2.2; rw [len_bytes] at this; omega⟩) o1.symm p1 (by rw [← hg]; exact hk) w

/-- What a power is to be. -/
def PowR (a b : List UInt8) (r : List UInt8 × Nat) : Prop :=
  (¬ (Tm.right a = true ∧ Tm.element a = true ∧ Tm.right b = true) ∧ r = ([], 1)) ∨
  ((Tm.right a = true ∧ Tm.element a = true ∧ Tm.right b = true) ∧ (((Tm.expsOf a).length = 32 ∧ r = ([], 3)) ∨
    ((Tm.expsOf a).length ≠ 32 ∧ ∃ ys : List (List UInt8), ys.Perm (Tm.expsOf a ++ [b]) ∧ Tm.chain [] ys ∧ r = Tm.madeT (101 :: UInt8.ofNat ((Tm.expsOf a).length + 1) :: ys.flatten))))
theorem PowR.unique {a b : List UInt8} {r r' : List UInt8 × Nat} (h : PowR a b r) (h' : PowR a b r') : r = r' := by
  rcases h with ⟨h1, h2⟩ | ⟨h1, ⟨h2, h3⟩ | ⟨h2, ys, h3, h4, h5⟩⟩ <;> rcases h' with ⟨k1, k2⟩ | ⟨k1, ⟨k2, k3⟩ | ⟨k2, zs, k3, k4, k5⟩⟩
  · rw [h2, k2]
  · exact absurd k1 h1
  · exact absurd k1 h1
  · exact absurd h1 k1
  · rw [h3, k3]
  · exact absurd h2 k2
  · exact absurd h1 k1
  · exact absurd k2 h2
  · rw [h5, k5, Tm.chain_unique h4 k4 (h3.trans k3.symm)]

def PowRel (w : World) (a b : List UInt8) (e : Ending) (w' : World) : Prop :=
  ∃ r : List UInt8 × Nat, e = .returned (.tuple #[.string ⟨r.1.toArray⟩, .int .i64 r.2]) ∧ PowR a b r ∧ Below w.heap.size w w'

theorem pow_found {W : World} {a b : List UInt8} {i : Nat} (ra : Tm.right a = true) (rb : Tm.right b = true) (hel : Tm.element a = true) (hf : Found (Tm.expsOf a) b i) (hn : (Tm.expsOf a).length ≠ 32) {e : Ending} {w' : World}
    (hp : Pair2 W (Tm.put [101, UInt8.ofNat ((Tm.expsOf a).length + 1)] (Tm.ins (Tm.expsOf a) i b)) e w') : PowRel W a b e w' := by
  obtain ⟨he, hb⟩ := hp
  obtain ⟨x1, x2, x3, _⟩ := Tm.expsOf_ok ra hel
  have hil := Tm.ins_length (Tm.expsOf a) i b hf.1
  have hch : Tm.chain [] (Tm.ins (Tm.expsOf a) i b) := by
    refine Tm.chain_insert _ _ _ x1 hf (fun _ => ?_)
    cases b <;> simp [Tm.less, Op.bytesLess]
  have hall : ∀ p ∈ Tm.ins (Tm.expsOf a) i b, Tm.depthOf p ≠ 0 := by
    intro p hp
    simp only [Tm.ins, List.mem_append, List.mem_cons] at hp
    rcases hp with hp | rfl | hp
    · exact (x2 p (List.mem_of_mem_take hp)).1
    · exact (Tm.right_iff _).1 rb
    · exact (x2 p (List.mem_of_mem_drop hp)).1
  have hm := Tm.put_made (hd := [101, UInt8.ofNat ((Tm.expsOf a).length + 1)]) hall (by rw [hil]; exact Tm.begin_pow _ (by omega) (by omega) _) (by simp) (by simp) (fun _ => hch)
  exact ⟨_, he, .inr ⟨⟨ra, hel, rb⟩, .inr ⟨hn, _, Tm.ins_perm _ _ _, hch, hm⟩⟩, hb⟩

theorem Pow_rel (a b : ByteArray) (ha : a.size ≤ maxLen) (hb : b.size ≤ maxLen) (W : World) : Calls Try.prog 14 #[.string a, .string b] W (PowRel W a.data.toList b.data.toList) := by
  by_cases h : Tm.element a.data.toList = true ∧ Tm.right a.data.toList = true ∧ Tm.right b.data.toList = true
  · obtain ⟨hel, ra, rb⟩ := h
    by_cases h0 : a.data.toList.getD 0 0 = 103
    · refine (Power_gen a b ha hb W hel ra rb h0).mono ?_
      rintro e w' ⟨i, hf, hp⟩
      refine pow_found ra rb hel hf ?_ hp
      unfold Tm.expsOf
      rw [if_pos h0]
      simp
    · by_cases h32 : (Tm.expsOf a.data.toList).length = 32
      · exact (Power_full a b ha hb W hel ra rb h0 h32).mono fun _ _ hp => ⟨([], 3), hp.1, .inr ⟨⟨ra, hel, rb⟩, .inl ⟨h32, rfl⟩⟩, hp.2⟩
      · refine (Power_pow a b ha hb W hel ra rb h0 h32).mono ?_
        rintro e w' ⟨i, hf, hp⟩
        exact pow_found ra rb hel hf h32 hp
  · exact (Power_no a b ha hb W h).mono fun _ _ hp => ⟨([], 1), hp.1, .inl ⟨fun k => h ⟨k.2.1, k.1, k.2.2⟩, rfl⟩, hp.2⟩

end Go.Proofs.Ytccdpimmmicgaaa
