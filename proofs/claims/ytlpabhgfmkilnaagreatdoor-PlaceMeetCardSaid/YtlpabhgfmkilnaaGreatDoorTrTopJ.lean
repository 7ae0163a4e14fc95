/- Contracts of tree.Join and tree.Leave. -/
import Derived.Test.YtlpabhgfmkilnaaGreatDoorTrTop
namespace Go.Proofs.YtlpabhgfmkilnaaGreatDoor.L13
open Go.ChangeShapes Go.WideShapes Go.ChangeAt Go.RowKit Go.Deep
open Go.Proofs.YtlpabhgfmkilnaaGreatDoor.L5 (One)

theorem Tr.ok.put_len {t : Tr} (h : t.ok) (p : Nat) : (t.put p).text.length ≤ 1000 := by
  have := (t.put p).text_len
  have := t.put_len p
  have := h.few
  omega
set_option maxHeartbeats 4000000 in
theorem join_top (x : List UInt8) (p : Int) (w : World) : Calls Tryz.prog 20 #[.string ⟨x.toArray⟩, .int .i64 p] w (Str2 w (joinX x p)) := by
  have hR := read_calls x w
  unfold joinX
  cases hr : readT x with
  | none =>
    rw [hr] at hR
    clear hr
    dsimp only
    go_enter Tryz.func20, Tryz.ntmps20
    go_wp2_with (go_at_call 23; refine hR.mono ?_; rintro e w1 ⟨hb, _, hn⟩; obtain rfl := hn rfl; have HB := Lib.hid hb; clear hb hn)
    go_ret2
    exact ⟨rfl, HB.out⟩
  | some t =>
    rw [hr] at hR
    have ho := (readT_some hr).2
    clear hr
    dsimp only
    by_cases hp : 1 ≤ p ∧ p ≤ 8
    · obtain ⟨q, rfl⟩ : ∃ q : Nat, p = q := ⟨p.toNat, by omega⟩
      have hq : 1 ≤ q ∧ q ≤ 8 := by omega
      have hI := Lib.hid (decide_eq_true hp)
      have HM := Lib.hid (fun (V : World) a F (h : TreeAt V t a F) => members_calls h (by have := ho.few; omega))
      have HH := Lib.hid (fun (V : World) (v : Value) B (h : V.ownsRow B 3 1 v t.mems.length (t.mems.map (Value.int .i64))) => L10.has_calls v t.mems (q : Int) V (ho.ints h) (by rw [mems_len]; have := ho.few; omega))
      have hcon := ho.contains (q : Int)
      rw [Int.toNat_natCast] at hcon ⊢
      by_cases hm : q ∈ t.procs
      · rw [if_neg (fun h => h.2.2 hm)]
        rw [decide_eq_true (And.intro (by omega) hm)] at hcon
        rw [hcon] at HH
        clear hcon hm ho hp
        go_enter Tryz.func20, Tryz.ntmps20
        go_wp2_with (first
          | (go_at_call 23; refine hR.mono ?_; rintro e w1 ⟨hb, hs, _⟩; obtain ⟨a, F, rfl, ht, _⟩ := hs _ rfl; have HB := Lib.hid hb; have hM := HM.out _ _ _ ht; clear hb hs ht)
          | (go_at_call 30; refine (isProc_calls _ _).mono ?_; rintro e w2 ⟨rfl, rfl⟩; rw [hI.out])
          | (go_at_call 24; refine hM.mono ?_; rintro e w3 ⟨v, rfl, ho, b2⟩; have hH := HH.out _ _ _ ho; obtain ⟨A, c, rfl⟩ := L5.own_slice ho; have HO := Lib.hid (And.intro ho b2); clear ho b2)
          | (go_at_call 32; refine hH.mono ?_; rintro e w4 ⟨rfl, b4⟩; have H4 := Lib.hid b4; clear b4))
        go_ret2
        have b3 := HB.out.trans (HO.out.2.mono HB.out.size)
        exact ⟨rfl, b3.trans (H4.out.mono b3.size)⟩
      · rw [if_pos ⟨hp.1, hp.2, hm⟩]
        rw [decide_eq_false (fun h => hm h.2)] at hcon
        rw [hcon] at HH
        have HJ := Lib.hid (fun (V : World) a F B (h : TreeAt V t a F) (hn : F.Nodup) (hB : B ≤ V.heap.size) (hF : ∀ r ∈ F, B ≤ r) => join_calls B h hn (by have := ho.deep8; omega) hq hB hF)
        have HW := Lib.hid (fun (V : World) a F (h : TreeAt V (t.put q) a F) => write_calls h (ho.put_len q))
        clear hcon hm ho hp hq
        generalize (t.put q).text = y at *
        go_enter Tryz.func20, Tryz.ntmps20
        go_wp2_with (first
          | (go_at_call 23; refine hR.mono ?_; rintro e w1 ⟨hb, hs, _⟩; obtain ⟨a, F, rfl, ht, hn, hF⟩ := hs _ rfl; have HB := Lib.hid (And.intro hb (And.intro ht (And.intro hn hF))); have hM := HM.out _ _ _ ht; clear hb hs ht hn hF)
          | (go_at_call 30; refine (isProc_calls _ _).mono ?_; rintro e w2 ⟨rfl, rfl⟩; rw [hI.out])
          | (go_at_call 24; refine hM.mono ?_; rintro e w3 ⟨v, rfl, ho, b2⟩; have hH := HH.out _ _ _ ho; obtain ⟨A, c, rfl⟩ := L5.own_slice ho; have HO := Lib.hid (And.intro ho b2); clear ho b2)
          | (go_at_call 32; refine hH.mono ?_; rintro e w4 ⟨rfl, b4⟩; have b14 := HO.out.2.trans (b4.mono HO.out.2.size); have b5 := HB.out.1.trans (b14.mono HB.out.1.size); have hJ := HJ.out w4 a F w.heap.size (HB.out.2.1.later b14) HB.out.2.2.1 b5.size HB.out.2.2.2; have H4 := Lib.hid b5; clear b4 b14 b5)
          | (go_at_call 33; refine hJ.mono ?_; rintro e w5 ⟨rfl, b5, F', ht5, _⟩; have hW := HW.out _ _ _ ht5; have H5 := Lib.hid (H4.out.trans b5); clear b5 ht5)
          | (go_at_call 31; refine hW.mono ?_; rintro e w6 ⟨rfl, b6⟩; have H6 := Lib.hid b6; clear b6))
        go_ret2
        exact ⟨rfl, H5.out.trans (H6.out.mono H5.out.size)⟩
    · have hI := Lib.hid (decide_eq_false hp)
      rw [if_neg (fun h => hp ⟨h.1, h.2.1⟩)]
      clear hp ho
      go_enter Tryz.func20, Tryz.ntmps20
      go_wp2_with (first
        | (go_at_call 23; refine hR.mono ?_; rintro e w1 ⟨hb, hs, _⟩; obtain ⟨a, F, rfl, ht, _⟩ := hs _ rfl; have HB := Lib.hid hb; clear hb hs ht)
        | (go_at_call 30; refine (isProc_calls _ _).mono ?_; rintro e w2 ⟨rfl, rfl⟩; rw [hI.out]))
      go_ret2
      exact ⟨rfl, HB.out⟩
theorem outX_leaf (q : Nat) (p : Int) : outX (.leaf q) p = ([], 8) := rfl
set_option maxHeartbeats 4000000 in
theorem leave_top (x : List UInt8) (p : Int) (w : World) : Calls Tryz.prog 21 #[.string ⟨x.toArray⟩, .int .i64 p] w (Str2 w (leaveX x p)) := by
  have hR := read_calls x w
  unfold leaveX
  cases hr : readT x with
  | none =>
    rw [hr] at hR
    clear hr
    dsimp only
    go_enter Tryz.func21, Tryz.ntmps21
    go_wp2_with (go_at_call 23; refine hR.mono ?_; rintro e w1 ⟨hb, _, hn⟩; obtain rfl := hn rfl; have HB := Lib.hid hb; clear hb hn)
    go_ret2
    exact ⟨rfl, HB.out⟩
  | some t =>
    rw [hr] at hR
    have ho := (readT_some hr).2
    clear hr
    dsimp only
    have HM := Lib.hid (fun (V : World) a F (h : TreeAt V t a F) => members_calls h (by have := ho.few; omega))
    have HH := Lib.hid (fun (V : World) (v : Value) B (h : V.ownsRow B 3 1 v t.mems.length (t.mems.map (Value.int .i64))) => L10.has_calls v t.mems p V (ho.ints h) (by rw [mems_len]; have := ho.few; omega))
    have hcon := ho.contains p
    by_cases hm : 1 ≤ p ∧ p.toNat ∈ t.procs
    · rw [decide_eq_true hm] at hcon
      rw [hcon] at HH
      cases t with
      | leaf q =>
        rw [outX_leaf]
        clear hcon hm ho
        go_enter Tryz.func21, Tryz.ntmps21
        go_wp2_with (first
          | (go_at_call 23; refine hR.mono ?_; rintro e w1 ⟨hb, hs, _⟩; obtain ⟨a, F, rfl, ht, _⟩ := hs _ rfl; have HB := Lib.hid (And.intro hb ht); have hM := HM.out _ _ _ ht; clear hb hs ht)
          | (go_at_call 24; refine hM.mono ?_; rintro e w3 ⟨v, rfl, ho, b2⟩; have hH := HH.out _ _ _ ho; obtain ⟨A, c, rfl⟩ := L5.own_slice ho; have HO := Lib.hid (And.intro ho b2); clear ho b2)
          | (go_at_call 32; refine hH.mono ?_; rintro e w4 ⟨rfl, b4⟩; have b14 := HO.out.2.trans (b4.mono HO.out.2.size); have hL := leaf_calls (HB.out.2.later b14); rw [show Tr.isLeaf (.leaf q) = true from rfl] at hL; have H4 := Lib.hid (HB.out.1.trans (b14.mono HB.out.1.size)); clear b4 b14)
          | (go_at_call 34; refine hL.mono ?_; rintro e w5 ⟨rfl, rfl⟩))
        go_ret2
        exact ⟨rfl, H4.out⟩
      | node l r =>
        obtain ⟨q, rfl⟩ : ∃ q : Nat, p = q := ⟨p.toNat, by omega⟩
        rw [Int.toNat_natCast] at hm
        have hq := ho.small q hm.2
        obtain ⟨u, hu, hup⟩ := Tr.out_some (ho.other q)
        have hX : outX (.node l r) (q : Int) = (u.text, 0) := by
          unfold outX
          rw [Int.toNat_natCast, hu]
          dsimp only
          rw [if_pos hm]
        rw [hX]
        have HJ := Lib.hid (fun (V : World) a F (h : TreeAt V (.node l r) a F) => leave_calls h hq)
        rw [hu] at HJ
        have hul : u.text.length ≤ 1000 := by have := (ho.out hup).len; omega
        have HW := Lib.hid (fun (V : World) a F (h : TreeAt V u a F) => write_calls h hul)
        clear hcon hm ho hq hX hul hu hup
        generalize u.text = y at *
        go_enter Tryz.func21, Tryz.ntmps21
        go_wp2_with (first
          | (go_at_call 23; refine hR.mono ?_; rintro e w1 ⟨hb, hs, _⟩; obtain ⟨a, F, rfl, ht, _⟩ := hs _ rfl; have HB := Lib.hid (And.intro hb ht); have hM := HM.out _ _ _ ht; clear hb hs ht)
          | (go_at_call 24; refine hM.mono ?_; rintro e w3 ⟨v, rfl, ho, b2⟩; have hH := HH.out _ _ _ ho; obtain ⟨A, c, rfl⟩ := L5.own_slice ho; have HO := Lib.hid (And.intro ho b2); clear ho b2)
          | (go_at_call 32; refine hH.mono ?_; rintro e w4 ⟨rfl, b4⟩; have b14 := HO.out.2.trans (b4.mono HO.out.2.size); have hL := leaf_calls (HB.out.2.later b14); rw [show Tr.isLeaf (.node l r) = false from rfl] at hL; have hJ := HJ.out _ _ _ (HB.out.2.later b14); have H4 := Lib.hid (HB.out.1.trans (b14.mono HB.out.1.size)); clear b4 b14)
          | (go_at_call 34; refine hL.mono ?_; rintro e w5 ⟨rfl, rfl⟩)
          | (go_at_call 35; refine hJ.mono ?_; rintro e w6 ⟨b6, hs6, _⟩; obtain ⟨a6, F6, rfl, ht6⟩ := hs6 _ rfl; have hW := HW.out _ _ _ ht6; have H6 := Lib.hid (H4.out.trans (b6.mono H4.out.size)); clear b6 hs6 ht6)
          | (go_at_call 31; refine hW.mono ?_; rintro e w7 ⟨rfl, b7⟩; have H7 := Lib.hid b7; clear b7))
        go_ret2
        exact ⟨rfl, H6.out.trans (H7.out.mono H6.out.size)⟩
    · have hX : outX t p = ([], 8) := by
        unfold outX
        split
        · rw [if_neg hm]
        · rfl
      rw [hX]
      rw [decide_eq_false hm] at hcon
      rw [hcon] at HH
      clear hcon hm ho hX
      go_enter Tryz.func21, Tryz.ntmps21
      go_wp2_with (first
        | (go_at_call 23; refine hR.mono ?_; rintro e w1 ⟨hb, hs, _⟩; obtain ⟨a, F, rfl, ht, _⟩ := hs _ rfl; have HB := Lib.hid (And.intro hb ht); have hM := HM.out _ _ _ ht; clear hb hs ht)
        | (go_at_call 24; refine hM.mono ?_; rintro e w3 ⟨v, rfl, ho, b2⟩; have hH := HH.out _ _ _ ho; obtain ⟨A, c, rfl⟩ := L5.own_slice ho; have HO := Lib.hid (And.intro ho b2); clear ho b2)
        | (go_at_call 32; refine hH.mono ?_; rintro e w4 ⟨rfl, b4⟩; have b14 := HO.out.2.trans (b4.mono HO.out.2.size); have H4 := Lib.hid (HB.out.1.trans (b14.mono HB.out.1.size)); clear b4 b14))
      go_ret2
      exact ⟨rfl, H4.out⟩
end Go.Proofs.YtlpabhgfmkilnaaGreatDoor.L13
