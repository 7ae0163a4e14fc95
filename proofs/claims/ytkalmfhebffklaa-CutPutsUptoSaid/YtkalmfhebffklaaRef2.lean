/- Contracts of the document's own Kind, Of, Open and Check (gemotref2): as the program's. -/
import Derived.Test.YtkalmfhebffklaaRef1
import Derived.Test.YtkalmfhebffklaaPFnP
namespace Go.Proofs.Ytkalmfhebffklaa
open Go.ChangeShapes Go.WideShapes Go.ChangeAt Go.RowKit

theorem info_text : (Try.prog.info? 9).map (fun i => (i.zero, i.size, i.bytes)) = some (some (.string ⟨#[]⟩), 1, 16) := by kernel_rfl

set_option maxHeartbeats 400000 in
theorem RKind_calls (s : ByteArray) (hs : s.size ≤ 9223372036854775807) (w : World) :
    Calls Try.prog 76 #[.string s] w (Drew w (.int .u8 (Tm.kindOf s.data.toList).toNat)) := by
  have cR := fun W => RRight_calls s hs W
  unfold Tm.kindOf
  cases hr : Tm.right s.data.toList with
  | false =>
    rw [hr] at cR
    have HR := Lib.hid cR
    clear cR hr
    go_enter Try.func76, Try.ntmps76
    go_wp2_with fail
    refine (HR.out _).mono ?_
    rintro e' w' ⟨rfl, md, rfl⟩
    go_wp2
    go_ret
    exact ⟨rfl, _, rfl⟩
  | true =>
    rw [hr] at cR
    have hp := (Tm.right_ne_nil hr).2
    rw [len_bytes] at hp
    have hg := getD_bytes s 0 hp
    rw [if_pos rfl, hg]
    have HR := Lib.hid cR
    have i1 : (0 : Int) < (s.size : Int) := by omega
    clear cR hr hg
    go_enter Try.func76, Try.ntmps76
    go_wp2_with fail
    refine (HR.out _).mono ?_
    rintro e' w' ⟨rfl, md, rfl⟩
    go_wp2
    go_ret
    exact ⟨rfl, _, rfl⟩

def ROfOut (w : World) (ps : List (List UInt8)) (e : Ending) (w' : World) : Prop :=
  ∃ v, e = .returned v ∧ w'.ownsRow w.heap.size 9 1 v ps.length (strs ps) ∧ Below w.heap.size w w'

def RTelling (l : List UInt8) (ps : List (List UInt8)) (w : World) (K : Nat) (v3 v4 : Value) (wr : World) : Prop :=
  ∃ (pre rest : List (List UInt8)) (at_ : Nat), K = rest.length ∧ ps = pre ++ rest ∧ v4 = .int .i64 at_ ∧ l.drop at_ = rest.flatten ∧ at_ ≤ l.length ∧ wr.ownsRow w.heap.size 9 1 v3 pre.length (strs pre) ∧ Below w.heap.size w wr

/-- Which of the kinds that have parts it is. -/
def KindOfNode (c : UInt8) (a : Nat) : Prop :=
  (((c.toNat : Int) == 107) = true ∧ a = 1) ∨ (((c.toNat : Int) == 107) = false ∧ ((c.toNat : Int) == 104) = true ∧ a = 1) ∨
  (((c.toNat : Int) == 107) = false ∧ ((c.toNat : Int) == 104) = false ∧ ((c.toNat : Int) == 112) = true ∧ a = 1) ∨
  (((c.toNat : Int) == 107) = false ∧ ((c.toNat : Int) == 104) = false ∧ ((c.toNat : Int) == 112) = false ∧ ((c.toNat : Int) == 115) = true ∧ a = 1) ∨
  (((c.toNat : Int) == 107) = false ∧ ((c.toNat : Int) == 104) = false ∧ ((c.toNat : Int) == 112) = false ∧ ((c.toNat : Int) == 115) = false ∧ ((c.toNat : Int) == 120) = true ∧ a = 1) ∨
  (((c.toNat : Int) == 107) = false ∧ ((c.toNat : Int) == 104) = false ∧ ((c.toNat : Int) == 112) = false ∧ ((c.toNat : Int) == 115) = false ∧ ((c.toNat : Int) == 120) = false ∧ ((c.toNat : Int) == 101) = true ∧ a = 2)

set_option maxRecDepth 100000 in
set_option maxHeartbeats 8000000 in
theorem ROf_node (s : ByteArray) (hs : s.size ≤ 20000) (ps : List (List UInt8)) (a : Nat) (hps : ps.length ≤ 32) (hg : ∀ p ∈ ps, Tm.Good 400 20000 p) (hd : s.data.toList.drop a = ps.flatten) (ha : a ≤ s.size)
    (hk : KindOfNode (Tm.kindOf s.data.toList) a) (w : World) : Calls Try.prog 75 #[.string s] w (ROfOut w ps) := by
  have HK := Lib.hid (fun W => RKind_calls s (by omega) W)
  have HE := Lib.hid (End_calls s (by omega) 400 (by omega))
  have HG := Lib.hid hg
  obtain ⟨i0, hi, hz0, hz1, hz2⟩ := info_parts info_text
  have HI : ∀ (md : Nat), Hid (RTelling s.data.toList ps w ps.length (.slice none 0 0) (.int .i64 a) (w.drewN md)) := fun md =>
    ⟨[], ps, a, rfl, rfl, rfl, hd, by rw [len_bytes]; exact ha, World.ownsRow_nil _ _ _ _, below_drewN (Below.refl _ _) _⟩
  have hsI : (s.size : Int) ≤ 20000 := by omega
  have HLen := Lib.hid (len_bytes s)
  generalize Tm.kindOf s.data.toList = c at *
  clear hg hd ha
  rcases hk with ⟨g1, rfl⟩ | ⟨g1, g2, rfl⟩ | ⟨g1, g2, g3, rfl⟩ | ⟨g1, g2, g3, g4, rfl⟩ | ⟨g1, g2, g3, g4, g5, rfl⟩ | ⟨g1, g2, g3, g4, g5, g6, rfl⟩
  all_goals
    go_enter Try.func75, Try.ntmps75
    go_wp2_with fail
    refine (HK.out _).mono ?_
    rintro e' w' ⟨rfl, md, rfl⟩
    go_wp2
    go_loopg [3, 4] ps.length (fun K v3 v4 wr => RTelling s.data.toList ps w K v3 v4 wr)
    case atStart => exact (HI md).out
    case round =>
      clear HI
      obtain ⟨pre, rest, at_, hK, hx, rfl, hdr, hat, hrow, hbel⟩ := hrel
      have HX := Lib.hid hx
      have HDr := Lib.hid hdr
      have HRw := Lib.hid hrow
      have hpl : pre.length + rest.length = ps.length := by rw [hx]; simp
      rw [HLen.out] at hat
      have hsz := hbel.size
      cases rest with
      | nil =>
        have hend : at_ = s.size := by
          have := congrArg List.length hdr
          rw [List.length_drop, HLen.out] at this
          simp at this
          omega
        have j1 : ¬ ((at_ : Int) < (s.size : Int)) := by omega
        have hpp : Hid (ps = pre) := by show _ = _; rw [hx]; simp
        clear hx hdr hrow hend hK
        go_wp2
        go_ret
        exact ⟨_, rfl, by rw [hpp.out]; exact HRw.out, hbel⟩
      | cons x rest =>
        have hGx := HG.out x (by rw [hx]; simp)
        obtain ⟨hpp, _⟩ := Tm.right_parse hGx.1
        have hst := Tm.parse_stable 400 x x.length _ hpp rest.flatten
        rw [List.take_length, ← List.flatten_cons, ← hdr] at hst
        have hxl := (Tm.right_ne_nil ((Tm.right_iff x).2 hGx.1)).2
        have hlen2 : x.length + rest.flatten.length = s.size - at_ := by
          have := congrArg List.length hdr
          rw [List.length_drop, HLen.out, List.flatten_cons, List.length_append] at this
          omega
        have cE : ∀ W, Calls Try.prog 86 #[.string s, .int .i64 at_, .int .i64 400] W (Drew W (.tuple #[.int .i64 (Tm.endI at_ (Tm.parse 400 (s.data.toList.drop at_))), .int .i64 (Tm.depI (Tm.parse 400 (s.data.toList.drop at_)))])) := fun W => HE.out at_ hat W
        rw [hst] at cE
        have eI : Tm.endI at_ (x.length, Tm.depthOf x, 0) = ((at_ + x.length : Nat) : Int) := by simp [Tm.endI]
        rw [eI] at cE
        generalize Tm.depI (x.length, Tm.depthOf x, 0) = dd at *
        have hex : s.extract at_ (at_ + x.length) = ⟨x.toArray⟩ := by
          rw [extract_eq, hdr, Nat.add_sub_cancel_left, List.flatten_cons, List.take_left]
        have hdr2 : s.data.toList.drop (at_ + x.length) = rest.flatten := by
          rw [← List.drop_drop, hdr, List.flatten_cons, List.drop_left]
        obtain ⟨en, hen⟩ : ∃ en, at_ + x.length = en := ⟨_, rfl⟩
        rw [hen] at cE hex hdr2
        have HC := Lib.hid cE
        have HD2 := Lib.hid hdr2
        have j1 : (at_ : Int) < (s.size : Int) := by omega
        have j2 : (0 : Int) ≤ (at_ : Int) := by omega
        have j3 : (at_ : Int) ≤ (en : Int) := by omega
        have j4 : (en : Int) ≤ (s.size : Int) := by omega
        have j5 : en ≤ s.size := by omega
        clear cE eI hst hpp hdr hrow hx hdr2 hGx hen hxl hlen2
        go_wp2_with (first
          | (go_at_call 86; refine (HC.out _).mono ?_; rintro e' w' ⟨rfl, md3, rfl⟩)
          | (at_builtin
             refine wpList_append_own _ rfl _ _ 24 rfl w.heap.size 9 i0 (.string ⟨#[]⟩) 1 16 Try.underlying24 hi hz0 hz1 hz2 rfl (by decide) _ pre.length (strs pre) rfl (World.ownsRow.alloc (w := wr.drewN md3) HRw.out _) ⟨wr.heap.size, 0, none⟩ 1 1 [.string ⟨x.toArray⟩] rfl rfl (cell_one_new _ _ _) (fun y hy => by simp at hy; subst hy; rfl) (by unfold maxLen; simp at hpl; omega) (by simp at hpl; omega) (by simp; omega) ?_
             intro v' w3 hown3 hgrow3 hnil3
             have X : Hid (w3.ownsRow w.heap.size 9 1 v' (pre.length + 1) (strs pre ++ [.string ⟨x.toArray⟩]) ∧ Below w.heap.size w w3) :=
               ⟨hown3, Below.grown ((below_drewN hbel md3).alloc (by simp; omega) _) hgrow3 (by simp; omega) (fun j hj => by have := (World.ownsRow.lt HRw.out _ hj).1; omega)⟩
             clear hown3 hgrow3 hnil3))
        go_roundg rest.length
        case measure => rw [hK]; simp
        case rel =>
          refine ⟨pre ++ [x], rest, en, rfl, by rw [HX.out]; simp, rfl, HD2.out, by rw [HLen.out]; exact j5, ?_, X.out.2⟩
          have e9 : strs (pre ++ [x]) = strs pre ++ [.string ⟨x.toArray⟩] := by simp [strs]
          rw [e9, List.length_append, List.length_singleton]
          exact X.out.1

end Go.Proofs.Ytkalmfhebffklaa
