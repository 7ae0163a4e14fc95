/- Contract of tree.Merge. -/
import Derived.Test.YtlpabhgfmkilnaaGreatDoorTrMerge
namespace Go.Proofs.YtlpabhgfmkilnaaGreatDoor.L13
open Go.ChangeShapes Go.WideShapes Go.ChangeAt Go.RowKit Go.Deep
open Go.Proofs.YtlpabhgfmkilnaaGreatDoor.L5 (One)

theorem merge_text_len {a b : Tr} (oa : a.ok) (ob : b.ok) : (Tr.node a b).text.length ≤ 1000 := by
  have := oa.len
  have := ob.len
  simp only [Tr.text, List.length_cons, List.length_append, List.length_nil]
  omega
set_option maxHeartbeats 4000000 in
theorem merge_top (x y : List UInt8) (w : World) : Calls Tryz.prog 22 #[.string ⟨x.toArray⟩, .string ⟨y.toArray⟩] w (Str2 w (mergeX x y)) := by
  have hR := read_calls x w
  have hS := Lib.hid (fun V => read_calls y V)
  unfold mergeX
  cases hr : readT x with
  | none =>
    rw [hr] at hR
    dsimp only
    generalize readT y = ry at *
    clear hr
    go_enter Tryz.func22, Tryz.ntmps22
    go_wp2_with fail
    refine hR.mono ?_
    rintro e w1 ⟨hb, _, hn⟩
    obtain rfl := hn rfl
    have HB := Lib.hid hb
    have hS1 := hS.out w1
    clear hb hn hR
    go_wp2_with fail
    refine hS1.mono ?_
    rintro e w2 hO
    obtain ⟨v, rfl, _⟩ := hO.val
    have HB2 := Lib.hid (HB.out.trans (hO.1.mono HB.out.size))
    clear hO hS1
    go_wp2
    go_ret2
    exact ⟨rfl, HB2.out⟩
  | some a =>
    rw [hr] at hR
    have oa := (readT_some hr).2
    cases hs : readT y with
    | none =>
      rw [hs] at hS
      clear hr hs oa
      dsimp only
      go_enter Tryz.func22, Tryz.ntmps22
      go_wp2_with fail
      refine hR.mono ?_
      rintro e w1 ⟨hb, hs, _⟩
      obtain ⟨p, F, rfl, _⟩ := hs _ rfl
      have HB := Lib.hid hb
      have hS1 := hS.out w1
      clear hb hs hR
      go_wp2_with fail
      refine hS1.mono ?_
      rintro e w2 ⟨hb, _, hn⟩
      obtain rfl := hn rfl
      have HB2 := Lib.hid (HB.out.trans (hb.mono HB.out.size))
      clear hb hn hS1
      go_wp2
      go_ret2
      exact ⟨rfl, HB2.out⟩
    | some b =>
      rw [hs] at hS
      have ob := (readT_some hs).2
      clear hr hs
      dsimp only
      have M1 := Lib.hid (fun (V : World) (p : Nat) (F : List Nat) (h : TreeAt V a p F) => members_calls h (by have := oa.few; omega))
      have M2 := Lib.hid (fun (V : World) (p : Nat) (F : List Nat) (h : TreeAt V b p F) => members_calls h (by have := ob.few; omega))
      have R1 := Lib.hid (fun (V : World) (v : Value) (B : Nat) (h : V.ownsRow B 3 1 v a.mems.length (a.mems.map (Value.int .i64))) => oa.ints h)
      have R2 := Lib.hid (fun (V : World) (v : Value) (B : Nat) (h : V.ownsRow B 3 1 v b.mems.length (b.mems.map (Value.int .i64))) => ob.ints h)
      have BC := Lib.hid (fun (V : World) (v u : Value) (h1 : IntsA V v a.mems) (h2 : IntsA V u b.mems) => L10.both_calls v u a.mems b.mems V h1 h2 (by rw [mems_len]; have := oa.few; omega) (by rw [mems_len]; have := ob.few; omega))
      have AC := Lib.hid (fun (V : World) (p q : Nat) (F G : List Nat) (h1 : TreeAt V a p F) (h2 : TreeAt V b q G) => ahead_calls h1 h2 oa ob)
      have W1 := Lib.hid (fun (V : World) (p : Nat) (F : List Nat) (h : TreeAt V (.node a b) p F) => write_calls h (merge_text_len oa ob))
      have W2 := Lib.hid (fun (V : World) (p : Nat) (F : List Nat) (h : TreeAt V (.node b a) p F) => write_calls h (merge_text_len ob oa))
      change Hid (∀ (V : World) (v u : Value) (h1 : IntsA V v a.mems) (h2 : IntsA V u b.mems), Calls Tryz.prog 36 #[v, u] V (L10.IntsOut V (sharedL a b))) at BC
      have hml : Tr.text (a.merge b) = if aheadB a b then (Tr.node a b).text else (Tr.node b a).text := by unfold Tr.merge; split <;> rfl
      rw [hml]
      clear hml oa ob
      generalize sharedL a b = sh at *
      generalize (Tr.node a b).text = t1 at *
      generalize (Tr.node b a).text = t2 at *
      by_cases hsh : 0 < sh.length
      · rw [if_pos hsh]
        have hsh' : (0 : Int) < (sh.length : Int) := by omega
        clear hsh
        go_enter Tryz.func22, Tryz.ntmps22
        go_wp2_with fail
        refine hR.mono ?_
        rintro e w1 ⟨hb, hs, _⟩
        obtain ⟨p, F, rfl, ta, _⟩ := hs _ rfl
        have HB := Lib.hid hb
        have hS1 := hS.out w1
        have TA := Lib.hid ta
        clear hb hs hR ta
        go_wp2_with fail
        refine hS1.mono ?_
        rintro e w2 ⟨hb, hs, _⟩
        obtain ⟨q, G, rfl, tb, _⟩ := hs _ rfl
        have HB2 := Lib.hid (HB.out.trans (hb.mono HB.out.size))
        have TA2 := Lib.hid (TA.out.later hb)
        have TB2 := Lib.hid tb
        have hM1 := M1.out _ _ _ TA2.out
        clear hb hs hS1 tb
        go_wp2_with fail
        refine hM1.mono ?_
        rintro e w3 ⟨v3, rfl, o3, b3⟩
        have HO3 := Lib.hid (And.intro o3 b3)
        have HB3 := Lib.hid (HB2.out.trans (b3.mono HB2.out.size))
        have hM2 := M2.out _ _ _ (TB2.out.later b3)
        obtain ⟨A3, c3, rfl⟩ := L5.own_slice o3
        clear o3 b3 hM1
        go_wp2_with fail
        refine hM2.mono ?_
        rintro e w4 ⟨v4, rfl, o4, b4⟩
        have HB4 := Lib.hid (HB3.out.trans (b4.mono HB3.out.size))
        have hBC := BC.out w4 _ _ (R1.out _ _ _ (L5.own_below HO3.out.1 b4)) (R2.out _ _ _ o4)
        obtain ⟨A4, c4, rfl⟩ := L5.own_slice o4
        clear o4 b4 hM2
        go_wp2_with fail
        refine hBC.mono ?_
        rintro e w5 ⟨v5, rfl, o5, b5⟩
        obtain ⟨A5, c5, rfl⟩ := L5.own_slice o5
        have HB5 := Lib.hid (HB4.out.trans (b5.mono HB4.out.size))
        clear o5 b5 hBC
        go_wp2
        go_ret2
        exact ⟨rfl, HB5.out⟩
      · rw [if_neg hsh]
        have hsh' : ¬ (0 : Int) < (sh.length : Int) := by omega
        clear hsh
        cases hab : aheadB a b with
        | true =>
          have HAB := Lib.hid hab
          clear hab
          rw [if_pos rfl]
          go_enter Tryz.func22, Tryz.ntmps22
          go_wp2_with fail
          refine hR.mono ?_
          rintro e w1 ⟨hb, hs, _⟩
          obtain ⟨p, F, rfl, ta, _⟩ := hs _ rfl
          have HB := Lib.hid hb
          have hS1 := hS.out w1
          have TA := Lib.hid ta
          clear hb hs hR ta
          go_wp2_with fail
          refine hS1.mono ?_
          rintro e w2 ⟨hb, hs, _⟩
          obtain ⟨q, G, rfl, tb, _⟩ := hs _ rfl
          have HB2 := Lib.hid (HB.out.trans (hb.mono HB.out.size))
          have TA2 := Lib.hid (TA.out.later hb)
          have TB2 := Lib.hid tb
          have hM1 := M1.out _ _ _ TA2.out
          clear hb hs hS1 tb
          go_wp2_with fail
          refine hM1.mono ?_
          rintro e w3 ⟨v3, rfl, o3, b3⟩
          have HO3 := Lib.hid (And.intro o3 b3)
          have HB3 := Lib.hid (HB2.out.trans (b3.mono HB2.out.size))
          have hM2 := M2.out _ _ _ (TB2.out.later b3)
          obtain ⟨A3, c3, rfl⟩ := L5.own_slice o3
          clear o3 b3 hM1
          go_wp2_with fail
          refine hM2.mono ?_
          rintro e w4 ⟨v4, rfl, o4, b4⟩
          have b4c := Lib.hid b4
          have HB4 := Lib.hid (HB3.out.trans (b4.mono HB3.out.size))
          have hBC := BC.out w4 _ _ (R1.out _ _ _ (L5.own_below HO3.out.1 b4)) (R2.out _ _ _ o4)
          obtain ⟨A4, c4, rfl⟩ := L5.own_slice o4
          clear o4 b4 hM2
          go_wp2_with fail
          refine hBC.mono ?_
          rintro e w5 ⟨v5, rfl, o5, b5⟩
          obtain ⟨A5, c5, rfl⟩ := L5.own_slice o5
          have HB5 := Lib.hid (HB4.out.trans (b5.mono HB4.out.size))
          have B25 := HO3.out.2.trans ((b4c.out.trans (b5.mono b4c.out.size)).mono HO3.out.2.size)
          have TA5 := Lib.hid (TA2.out.later B25)
          have TB5 := Lib.hid (TB2.out.later B25)
          have hAC := AC.out w5 p q F G TA5.out TB5.out
          clear B25
          clear o5 b5 hBC
          rw [HAB.out] at hAC
          go_wp2_with fail
          refine hAC.mono ?_
          rintro e w6 ⟨rfl, b6⟩
          have hW := Lib.hid (tree_node_new (TA5.out.later b6) (TB5.out.later b6))
          have HB6 := Lib.hid (HB5.out.trans (b6.mono HB5.out.size))
          have hW1 := W1.out _ _ _ hW.out
          have HB7 := Lib.hid (HB6.out.alloc HB6.out.size (.cells #[.int .i64 0, .pointer (some ⟨p, 0, none⟩), .pointer (some ⟨q, 0, none⟩)] 57))
          clear b6 hAC
          go_wp2_with (first
            | (go_at_call 38; refine (above_calls _ _ _).mono ?_; rintro e w7 ⟨rfl, rfl⟩)
            | (go_at_call 31; refine hW1.mono ?_; rintro e w8 ⟨rfl, b8⟩; have H8 := Lib.hid b8; clear b8))
          go_ret2
          exact ⟨rfl, HB7.out.trans (H8.out.mono HB7.out.size)⟩
        | false =>
          have HAB := Lib.hid hab
          clear hab
          rw [if_neg (by decide)]
          go_enter Tryz.func22, Tryz.ntmps22
          go_wp2_with fail
          refine hR.mono ?_
          rintro e w1 ⟨hb, hs, _⟩
          obtain ⟨p, F, rfl, ta, _⟩ := hs _ rfl
          have HB := Lib.hid hb
          have hS1 := hS.out w1
          have TA := Lib.hid ta
          clear hb hs hR ta
          go_wp2_with fail
          refine hS1.mono ?_
          rintro e w2 ⟨hb, hs, _⟩
          obtain ⟨q, G, rfl, tb, _⟩ := hs _ rfl
          have HB2 := Lib.hid (HB.out.trans (hb.mono HB.out.size))
          have TA2 := Lib.hid (TA.out.later hb)
          have TB2 := Lib.hid tb
          have hM1 := M1.out _ _ _ TA2.out
          clear hb hs hS1 tb
          go_wp2_with fail
          refine hM1.mono ?_
          rintro e w3 ⟨v3, rfl, o3, b3⟩
          have HO3 := Lib.hid (And.intro o3 b3)
          have HB3 := Lib.hid (HB2.out.trans (b3.mono HB2.out.size))
          have hM2 := M2.out _ _ _ (TB2.out.later b3)
          obtain ⟨A3, c3, rfl⟩ := L5.own_slice o3
          clear o3 b3 hM1
          go_wp2_with fail
          refine hM2.mono ?_
          rintro e w4 ⟨v4, rfl, o4, b4⟩
          have b4c := Lib.hid b4
          have HB4 := Lib.hid (HB3.out.trans (b4.mono HB3.out.size))
          have hBC := BC.out w4 _ _ (R1.out _ _ _ (L5.own_below HO3.out.1 b4)) (R2.out _ _ _ o4)
          obtain ⟨A4, c4, rfl⟩ := L5.own_slice o4
          clear o4 b4 hM2
          go_wp2_with fail
          refine hBC.mono ?_
          rintro e w5 ⟨v5, rfl, o5, b5⟩
          obtain ⟨A5, c5, rfl⟩ := L5.own_slice o5
          have HB5 := Lib.hid (HB4.out.trans (b5.mono HB4.out.size))
          have B25 := HO3.out.2.trans ((b4c.out.trans (b5.mono b4c.out.size)).mono HO3.out.2.size)
          have TA5 := Lib.hid (TA2.out.later B25)
          have TB5 := Lib.hid (TB2.out.later B25)
          have hAC := AC.out w5 p q F G TA5.out TB5.out
          clear B25
          clear o5 b5 hBC
          rw [HAB.out] at hAC
          go_wp2_with fail
          refine hAC.mono ?_
          rintro e w6 ⟨rfl, b6⟩
          have hW := Lib.hid (tree_node_new (TB5.out.later b6) (TA5.out.later b6))
          have HB6 := Lib.hid (HB5.out.trans (b6.mono HB5.out.size))
          have hW1 := W2.out _ _ _ hW.out
          have HB7 := Lib.hid (HB6.out.alloc HB6.out.size (.cells #[.int .i64 0, .pointer (some ⟨q, 0, none⟩), .pointer (some ⟨p, 0, none⟩)] 57))
          clear b6 hAC
          go_wp2_with (first
            | (go_at_call 38; refine (above_calls _ _ _).mono ?_; rintro e w7 ⟨rfl, rfl⟩)
            | (go_at_call 31; refine hW1.mono ?_; rintro e w8 ⟨rfl, b8⟩; have H8 := Lib.hid b8; clear b8))
          go_ret2
          exact ⟨rfl, HB7.out.trans (H8.out.mono HB7.out.size)⟩
end Go.Proofs.YtlpabhgfmkilnaaGreatDoor.L13
