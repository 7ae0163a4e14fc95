/- The law PartsBack: for all steps, places and processes it returns true. -/
import Derived.Test.YtccdpimmmicgaaaPartsLaw
namespace Go.Proofs.Ytccdpimmmicgaaa.L2
open Go.ChangeShapes Go.WideShapes Go.ChangeAt Go.RowKit

theorem kind_at {k m : Nat} {l : List UInt8} (h : Tm.Good k m l) (hm : m ≤ 20000) (W : World) : Calls Try.prog 34 #[.string ⟨l.toArray⟩] W (One W (.int .u8 (l.getD 0 0).toNat)) := by
  have := Kind_calls ⟨l.toArray⟩ (by rw [size_list]; have := h.2.2; unfold maxLen; omega) W
  have e : (⟨l.toArray⟩ : ByteArray).data.toList = l := by simp
  rw [e, h.kind] at this
  exact this
theorem of_at {k m : Nat} {l : List UInt8} (h : Tm.Good k m l) (W : World) : Calls Try.prog 37 #[.string ⟨l.toArray⟩] W (OfOut W (Tm.ofL l)) := by
  have e : (⟨l.toArray⟩ : ByteArray).data.toList = l := by simp
  have := Of_right ⟨l.toArray⟩ (by rw [e]; exact h.right) W
  rw [e] at this
  exact this
theorem open_at {l k : List UInt8} (hl : l.length ≤ 20000) (W : World) : Calls Try.prog 41 #[.string ⟨l.toArray⟩, .string ⟨k.toArray⟩] W (One W (.tuple #[.string ⟨(Tm.openT l k).1.toArray⟩, .string ⟨(Tm.openT l k).2.1.toArray⟩, .int .i64 (Tm.openT l k).2.2])) := by
  have := Open_calls ⟨l.toArray⟩ ⟨k.toArray⟩ (by rw [size_list]; unfold maxLen; omega) W
  have e : (⟨l.toArray⟩ : ByteArray).data.toList = l := by simp
  have e2 : (⟨k.toArray⟩ : ByteArray).data.toList = k := by simp
  rw [e, e2] at this
  exact this
theorem check_at {l : List UInt8} (p : Int) (hl : l.length ≤ 20000) (W : World) : Calls Try.prog 43 #[.string ⟨l.toArray⟩, .int .i64 p] W (One W (.tuple #[.string ⟨(Tm.checkT l p).1.toArray⟩, .int .i64 (Tm.checkT l p).2])) := by
  have := Check_calls ⟨l.toArray⟩ p (by rw [size_list]; unfold maxLen; omega) W
  have e : (⟨l.toArray⟩ : ByteArray).data.toList = l := by simp
  rw [e] at this
  exact this
theorem new_texts (W : World) (xs : List (List UInt8)) (t : TypeId) : Texts (W.alloc (.cells (xs.map fun x => Value.string ⟨x.toArray⟩).toArray t)) W.heap.size xs := text_cells (heap_alloc_new W _)
theorem texts_alloc {W : World} {g : Nat} {xs : List (List UInt8)} (h : Texts W g xs) (hg : g < W.heap.size) (o : Obj) : Texts (W.alloc o) g xs := h.below ((Below.refl W.heap.size W).alloc (Nat.le_refl _) o) hg

set_option maxRecDepth 100000 in
set_option maxHeartbeats 40000000 in
theorem back_all (A : Option Addr) (n c : Nat) (i j k p : Int) (w : World) (hS : Steps w A n) (hnc : n ≤ maxLen) (ri : isInt i) (rj : isInt j) (rk : isInt k) (rp : isInt p) :
    Calls Try.prog 8 #[.slice A n c, .int .i64 i, .int .i64 j, .int .i64 k, .int .i64 p] w (One w (.bool true)) := by
  have HS := Lib.hid shown_calls
  have HSt := Lib.hid hS
  have HNC := Lib.hid hnc
  have HR := Lib.hid (And.intro ri (And.intro rj (And.intro rk rp)))
  clear hS hnc ri rj rk rp
  go_enter Try.func8, Try.ntmps8
  go_wp2_with fail
  refine (HS.out _).mono ?_
  rintro e' w0 ⟨rfl, B0⟩
  have HM := Lib.hid (made_calls A n c w0 (steps_below HSt.out B0) HNC.out)
  go_wp2_with fail
  refine HM.out.mono ?_
  rintro e' w1 ⟨g, cap, ts, rfl, hrow, hlen, hgood, hb1⟩
  have B := B0.trans (hb1.mono B0.size)
  have h42 : ts.length ≤ 42 := by omega
  have h22 : 2 ≤ ts.length := by omega
  obtain ⟨pa, a, cPa, la, ca, Ga⟩ := pick_at hrow h22 h42 hgood HR.out.1
  obtain ⟨pb, b, cPb, lb, cb, Gb⟩ := pick_at hrow h22 h42 hgood HR.out.2.1
  obtain ⟨pc, d, cPc, lc, cc, Gc⟩ := pick_at hrow h22 h42 hgood HR.out.2.2.1
  have hq8 := Tm.pickN_lt p 8 (by omega)
  have cPq := fun W => pick_calls p 8 HR.out.2.2.2.1 HR.out.2.2.2.2 (by omega) (by omega) W
  obtain ⟨q, hq⟩ : ∃ q, Tm.pickN p 8 = q := ⟨_, rfl⟩
  rw [hq] at hq8 cPq
  have cPq' : ∀ W : World, Calls Try.prog 46 #[.int .i64 p, .int .i64 8] W fun e w' => e = .returned (.int .i64 q) ∧ W = w' := cPq
  have HPa := Lib.hid cPa
  have HPb := Lib.hid cPb
  have HPc := Lib.hid cPc
  have HPq := Lib.hid cPq'
  have ja : (0 : Int) ≤ (pa : Int) := by omega
  have jb : (0 : Int) ≤ (pb : Int) := by omega
  have jc : (0 : Int) ≤ (pc : Int) := by omega
  have jq : (0 : Int) ≤ (q : Int) := by omega
  have jq8 : (q : Int) < 8 := by omega
  -- the makers
  have HMp := Lib.hid (fun W => pair_fine Ga Gb W)
  have HMh := Lib.hid (fun W => hash_fine Ga W)
  have HMs := Lib.hid (fun W => three_fine Ga Gb Gc W)
  have cOwn := fun W => Private_calls (1 + (q : Int)) (by omega) (by omega) W
  have eP : (#[105, UInt8.ofNat (1 + (q : Int)).toNat] : Array UInt8) = [105, UInt8.ofNat (1 + (q : Int)).toNat].toArray := rfl
  rw [eP] at cOwn
  have Go := (Tm.good_private (1 + (q : Int)).toNat (by omega) (by omega)).mono (k' := 41) (m' := 600) (by omega) (by omega)
  have cSg := fun W => sign_fine Go Ga W
  -- what is taken apart
  have cKp := fun W => kind_at (Tm.fine_pair Ga Gb) (by omega) W
  have cOp := fun W => of_at (Tm.fine_pair Ga Gb) W
  rw [Tm.ofL_pair Ga.1 Gb.1] at cOp
  have cOh := fun W => of_at (Tm.fine_hash Ga) W
  rw [Tm.ofL_hash Ga.1] at cOh
  have cUa := fun W => open_at (k := a) (Tm.fine_three Ga Gb Gc).2.2 W
  rw [Tm.openT_yes Ga Gb Gc] at cUa
  have cUb := fun W => open_at (k := b) (Tm.fine_three Ga Gb Gc).2.2 W
  have cCq := fun W => check_at (1 + (q : Int)) (Tm.fine_sign Go Ga).2.2 W
  rw [Tm.checkT_yes (1 + (q : Int)) (by omega) (by omega) Ga] at cCq
  have cCr := fun W => check_at (1 + (1 + (q : Int)) % 8) (Tm.fine_sign Go Ga).2.2 W
  rw [Tm.checkT_no (1 + (q : Int)) (1 + (1 + (q : Int)) % 8) (by omega) (by omega) Ga (by omega)] at cCr
  have hUb : (a = b ∧ Tm.openT (115 :: (a ++ (b ++ d))) b = (b, d, 0)) ∨ (a ≠ b ∧ Tm.openT (115 :: (a ++ (b ++ d))) b = ([], [], 6)) := by
    by_cases hab : a = b
    · refine .inl ⟨hab, ?_⟩
      have := Tm.openT_yes Ga Gb Gc
      rw [← hab] at this ⊢
      exact this
    · exact .inr ⟨hab, Tm.openT_no Ga Gb Gc hab⟩
  have eK : (112 :: (a ++ b)).getD 0 0 = 112 := rfl
  rw [eK] at cKp
  clear eK
  generalize Tm.openT (115 :: (a ++ (b ++ d))) b = ub at *
  generalize hpr : (112 :: (a ++ b)) = pr at *
  generalize hhs : (104 :: a) = hs at *
  generalize hsl : (115 :: (a ++ (b ++ d))) = sl at *
  generalize hsg : (120 :: ([105, UInt8.ofNat (1 + (q : Int)).toNat] ++ a)) = sg at *
  generalize [105, UInt8.ofNat (1 + (q : Int)).toNat] = own at *
  have HOwn := Lib.hid cOwn
  have HSg := Lib.hid cSg
  have HKp := Lib.hid cKp
  have HOp := Lib.hid cOp
  have HOh := Lib.hid cOh
  have HUa := Lib.hid cUa
  have HUb := Lib.hid cUb
  have HCq := Lib.hid cCq
  have HCr := Lib.hid cCr
  obtain ⟨ub1, ub2, ub3⟩ := ub
  have hEq : ((ub3 : Int) == 0) = (a == b) ∧ (((ub3 : Int) == 0) = true ∨ ((ub3 : Int) == 6) = true) := by
    rcases hUb with ⟨h1, h2⟩ | ⟨h1, h2⟩
    · simp only [Prod.mk.injEq] at h2
      rw [h2.2.2, h1]; simp
    · simp only [Prod.mk.injEq] at h2
      rw [h2.2.2]
      have : (a == b) = false := by simpa using h1
      rw [this]; simp
  have hr8 : (1 + (q : Int)) % 8 ≤ 8 := by omega
  have hr0 : (0 : Int) ≤ (1 + (q : Int)) % 8 := by omega
  obtain ⟨E1, E2⟩ := hEq
  clear hUb cOwn cSg cKp cOp cOh cUa cUb cCq cCr eP hrow hgood hlen hb1 cPa cPb cPc cPq cPq' HM HSt HNC HS B0 hq Ga Gb Gc Go hpr hhs hsl hsg
  go_wp2_with fail
  refine HPa.out.mono ?_
  rintro e' w' ⟨rfl, rfl⟩
  go_wp2_with fail
  refine HPb.out.mono ?_
  rintro e' w' ⟨rfl, rfl⟩
  go_wp2_with fail
  refine HPc.out.mono ?_
  rintro e' w' ⟨rfl, rfl⟩
  go_wp2_with fail
  refine (HPq.out _).mono ?_
  rintro e' w' ⟨rfl, rfl⟩
  clear ca cb cc
  go_wp2_with fail
  refine (HMp.out _).mono ?_
  rintro e' w2 ⟨rfl, b2⟩
  replace B := B.trans (b2.mono B.size)
  clear b2
  go_wp2_with fail
  refine (HMh.out _).mono ?_
  rintro e' w3 ⟨rfl, b3⟩
  replace B := B.trans (b3.mono B.size)
  clear b3
  go_wp2_with fail
  refine (HMs.out _).mono ?_
  rintro e' w4 ⟨rfl, b4⟩
  replace B := B.trans (b4.mono B.size)
  clear b4
  go_wp2_with fail
  refine (HOwn.out _).mono ?_
  rintro e' w5 ⟨rfl, b5⟩
  replace B := B.trans (b5.mono B.size)
  clear b5
  go_wp2_with fail
  refine (HSg.out _).mono ?_
  rintro e' w6 ⟨rfl, b6⟩
  replace B := B.trans (b6.mono B.size)
  clear b6
  go_wp2_with fail
  refine (HKp.out _).mono ?_
  rintro e' w7 ⟨rfl, b7⟩
  replace B := B.trans (b7.mono B.size)
  clear b7
  go_wp2_with fail
  refine (HOp.out _).mono ?_
  rintro e' w8 ⟨v, rfl, hrow8, _, b8⟩
  obtain ⟨g8, c8, rfl, hT8, hg8⟩ := row_slice hrow8 (by simp)
  replace B := B.trans (b8.mono B.size)
  clear b8 hrow8
  have HT8 := Lib.hid hT8
  clear hT8
  go_wp2_with fail
  refine (same_row [a, b] g8 w8.heap.size c8 2 _ (by simp) (texts_alloc HT8.out hg8 _) (new_texts w8 [a, b] _)).mono ?_
  rintro e' w9 ⟨rfl, b9⟩
  replace B := (B.alloc B.size _).trans (b9.mono (by simp; have := B.size; omega))
  clear b9
  go_wp2_with fail
  refine (HOh.out _).mono ?_
  rintro e' w10 ⟨v, rfl, hrow10, _, b10⟩
  obtain ⟨g10, c10, rfl, hT10, hg10⟩ := row_slice hrow10 (by simp)
  replace B := B.trans (b10.mono B.size)
  clear b10 hrow10
  have HT10 := Lib.hid hT10
  clear hT10
  go_wp2_with fail
  refine (same_row [a] g10 w10.heap.size c10 1 _ (by simp) (texts_alloc HT10.out hg10 _) (new_texts w10 [a] _)).mono ?_
  rintro e' w11 ⟨rfl, b11⟩
  replace B := (B.alloc B.size _).trans (b11.mono (by simp; have := B.size; omega))
  clear b11
  go_wp2_with fail
  refine (HUa.out _).mono ?_
  rintro e' w12 ⟨rfl, b12⟩
  replace B := B.trans (b12.mono B.size)
  clear b12
  go_wp2_with fail
  refine (HUb.out _).mono ?_
  rintro e' w13 ⟨rfl, b13⟩
  replace B := B.trans (b13.mono B.size)
  clear b13
  go_wp2_with fail
  refine (HCq.out _).mono ?_
  rintro e' w14 ⟨rfl, b14⟩
  replace B := B.trans (b14.mono B.size)
  clear b14
  go_wp2_with fail
  refine (HCr.out _).mono ?_
  rintro e' w15 ⟨rfl, b15⟩
  replace B := B.trans (b15.mono B.size)
  clear b15
  rcases E2 with E2 | E2
  · rw [E2] at E1
    have E1' := E1.symm
    clear E1
    go_wp2
    go_ret
    exact ⟨rfl, B⟩
  · have E3 : ((ub3 : Int) == 0) = false := by simp at E2 ⊢; omega
    rw [E3] at E1
    have E1' := E1.symm
    clear E1
    go_wp2
    go_ret
    exact ⟨rfl, B⟩

end Go.Proofs.Ytccdpimmmicgaaa.L2
