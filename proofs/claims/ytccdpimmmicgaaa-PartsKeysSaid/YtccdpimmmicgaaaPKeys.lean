/- The law PartsKeys: for all steps, places and processes it returns true. -/
import Derived.Test.YtccdpimmmicgaaaPBack
import Derived.Deep.QuietTactic
import Derived.Deep.RegionWith
namespace Go.Proofs.Ytccdpimmmicgaaa
open Go.ChangeShapes Go.WideShapes Go.ChangeAt Go.RowKit

/-- A world in which all that lay in w lies as it lay. -/
structure Later (w : World) where
  world : World
  kept : Below w.heap.size w world
instance (w : World) : Nonempty (Later w) := ⟨⟨w, Below.refl _ _⟩⟩
/-- A region that draws its order, whose operations read what lay there before, and whose callees leave it as it was: one walk, in the order of the text. -/
theorem wp_region_kept {P : Program} {id : Nat} {Q : Exit → Act → World → Prop} {a : Act} {w : World} {l : List Oper} (hm : P.follows .mixedOrders = true) (hB : Region.lexB .any l.toArray = true)
    (h : wpQuiet P l.toArray (fun w' => ∃ X : Later w, w' = X.world) (fun a' => ∀ w', (∃ X : Later w, w' = X.world) → Q .normal a' w') l a) : (Code.region id l.toArray true).wp P Q a w :=
  wp_region_quiet (C := fun w' => ∃ X : Later w, w' = X.world) hm hB ⟨⟨w.drewN 1, below_drewN (Below.refl _ _) _⟩, rfl⟩ (by simpa using h)

namespace L2
def Going (V : World) (n k : Nat) (v : Value) (wr : World) : Prop := ∃ i : Nat, k + i = n ∧ v = .int .i64 i ∧ Below V.heap.size V wr
def Signers (V : World) (q k : Nat) (v24 v25 : Value) (wr : World) : Prop :=
  ∃ r : Nat, k + r = 10 ∧ v25 = .int .i64 r ∧ v24 = .int .i64 ((if 1 + q < r then 1 else 0 : Nat) : Int) ∧ Below V.heap.size V wr
theorem pick_any {V : World} {B g cap : Nat} {ts : List (List UInt8)} (hrow : V.ownsRow B 23 1 (.slice (some ⟨g, 0, none⟩) ts.length cap) ts.length (strs ts)) (h2 : 2 ≤ ts.length) (h42 : ts.length ≤ 42) (hg : ∀ t ∈ ts, Tm.Good 41 600 t) {v : Int} (hv : isInt v) :
    ∃ (p : Nat) (x : List UInt8), (∀ W, Calls Try.prog 46 #[.int .i64 v, .int .i64 ts.length] W fun e w' => e = .returned (.int .i64 p) ∧ W = w') ∧ (p : Int) < (ts.length : Int) ∧ V.cell? ⟨g, p, none⟩ = some (.string ⟨x.toArray⟩) ∧ Tm.Good 41 600 x := by
  have hl := Tm.pickN_lt v ts.length (by omega)
  obtain ⟨x, hx⟩ : ∃ x, ts[Tm.pickN v ts.length]? = some x := ⟨_, List.getElem?_eq_getElem hl⟩
  exact ⟨_, x, fun W => pick_calls v ts.length hv.1 hv.2 (by omega) (by omega) W, by omega, texts_of_row hrow _ _ hx, hg x (List.mem_of_getElem? hx)⟩

set_option maxRecDepth 100000 in
set_option maxHeartbeats 40000000 in
theorem keys_all (A : Option Addr) (n c : Nat) (i j k p : Int) (w : World) (hS : Steps w A n) (hnc : n ≤ maxLen) (ri : isInt i) (rj : isInt j) (rk : isInt k) (rp : isInt p) :
    Calls Try.prog 12 #[.slice A n c, .int .i64 i, .int .i64 j, .int .i64 k, .int .i64 p] w (One w (.bool true)) := by
  have HS := Lib.hid shown_calls
  have HSt := Lib.hid hS
  have HNC := Lib.hid hnc
  have HR := Lib.hid (And.intro ri (And.intro rj (And.intro rk rp)))
  clear hS hnc ri rj rk rp
  go_enter Try.func12, Try.ntmps12
  go_wp2_with fail
  refine (HS.out _).mono ?_
  rintro e' w0 ⟨rfl, B0⟩
  have HM := Lib.hid (made_calls A n c w0 (steps_below HSt.out B0) HNC.out)
  go_wp2_with fail
  refine HM.out.mono ?_
  rintro e' w1 ⟨g, cap, ts, rfl, hrow, hlen, hgood, hb1⟩
  have B := B0.trans (hb1.mono B0.size)
  have h42 : ts.length ≤ 42 := by omega
  have h22 : 2 ≤ ts.length := by omega
  obtain ⟨pa, a, cPa, la, ca, Ga⟩ := pick_any hrow h22 h42 hgood HR.out.1
  obtain ⟨pb, b, cPb, lb, cb, Gb⟩ := pick_any hrow h22 h42 hgood HR.out.2.1
  obtain ⟨pc, d, cPc, lc, cc, Gc⟩ := pick_any hrow h22 h42 hgood HR.out.2.2.1
  have hq8 := Tm.pickN_lt p 8 (by omega)
  have cPq := fun W => pick_calls p 8 HR.out.2.2.2.1 HR.out.2.2.2.2 (by omega) (by omega) W
  obtain ⟨q, hq⟩ : ∃ q, Tm.pickN p 8 = q := ⟨_, rfl⟩
  rw [hq] at hq8 cPq
  have cPq' : ∀ W : World, Calls Try.prog 46 #[.int .i64 p, .int .i64 8] W fun e w' => e = .returned (.int .i64 q) ∧ W = w' := cPq
  have HPa := Lib.hid cPa
  have HPb := Lib.hid cPb
  have HPc := Lib.hid cPc
  have HPq := Lib.hid cPq'
  have ja : (0 : Int) ≤ (pa : Int) := by omega
  have jb : (0 : Int) ≤ (pb : Int) := by omega
  have jc : (0 : Int) ≤ (pc : Int) := by omega
  have jq : (0 : Int) ≤ (q : Int) := by omega
  have jq8 : (q : Int) < 8 := by omega
  have HMs := Lib.hid (fun W => three_fine Ga Gb Gc W)
  have HG := Lib.hid hgood
  have HT := Lib.hid (texts_of_row hrow)
  have hgl : g < w1.heap.size := lt_of_row hrow
  have HAll := Lib.hid (And.intro Ga (And.intro Gb Gc))
  generalize hsl : (115 :: (a ++ (b ++ d))) = sl at *
  have HSl := Lib.hid hsl
  clear hrow hgood hlen hb1 cPa cPb cPc cPq cPq' HM HSt HNC HS B0 hq Ga Gb Gc hsl
  go_wp2_with fail
  refine (HPa.out _).mono ?_
  rintro e' w' ⟨rfl, rfl⟩
  go_wp2_with fail
  have cb' : ∀ X : Later w1, X.world.cell? ⟨g, pb, none⟩ = some (.string ⟨b.toArray⟩) := fun X => (X.kept.cell (p := ⟨g, pb, none⟩) hgl).trans cb
  have cc' : ∀ X : Later w1, X.world.cell? ⟨g, pc, none⟩ = some (.string ⟨d.toArray⟩) := fun X => (X.kept.cell (p := ⟨g, pc, none⟩) hgl).trans cc
  clear cb cc ca
  refine wp_region_kept (by kernel_rfl) (by kernel_rfl) ?_
  repeat
    quiet_step (first
      | (go_at_call_of 46 (Value.int .i64 j); exact (HPb.out _).mono (fun _ _ h => ⟨h.1, _, h.2.symm⟩))
      | (go_at_call_of 46 (Value.int .i64 k); exact (HPc.out _).mono (fun _ _ h => ⟨h.1, _, h.2.symm⟩))
      | (go_at_call 21; exact (HMs.out _).mono (fun _ W h => ⟨h.1, ⟨W, Below.trans (Later.kept _) (h.2.mono (Later.kept _).size)⟩, rfl⟩)))
  refine wpQuiet_nil ?_
  rintro w2 ⟨⟨V, b2⟩, rfl⟩
  replace B := B.trans (b2.mono B.size)
  have HT2 := Lib.hid (HT.out.below b2 hgl)
  have hgl2 : g < w2.heap.size := Nat.lt_of_lt_of_le hgl b2.size
  clear b2 hgl HT HPa HPb HPc HMs cb' cc'
  -- the private one, and the signature
  have Ga := HAll.out.1
  have Gb := HAll.out.2.1
  have Gc := HAll.out.2.2
  have cOwn := fun W => Private_calls (1 + (q : Int)) (by omega) (by omega) W
  have eP : (#[105, UInt8.ofNat (1 + (q : Int)).toNat] : Array UInt8) = [105, UInt8.ofNat (1 + (q : Int)).toNat].toArray := rfl
  rw [eP] at cOwn
  have Go := (Tm.good_private (1 + (q : Int)).toNat (by omega) (by omega)).mono (k' := 41) (m' := 600) (by omega) (by omega)
  have cSg := fun W => sign_fine Go Ga W
  have cCk : ∀ (r : Int) (W : World), Calls Try.prog 43 #[.string ⟨(120 :: ([105, UInt8.ofNat (1 + (q : Int)).toNat] ++ a)).toArray⟩, .int .i64 r] W (One W (.tuple #[.string ⟨(if r = 1 + (q : Int) then a else []).toArray⟩, .int .i64 ((if r = 1 + (q : Int) then 0 else 6 : Nat) : Int)])) := by
    intro r W
    have := check_at (l := 120 :: ([105, UInt8.ofNat (1 + (q : Int)).toNat] ++ a)) r (Tm.fine_sign Go Ga).2.2 W
    by_cases hr : r = 1 + (q : Int)
    · rw [if_pos hr, if_pos hr]
      rw [hr, Tm.checkT_yes (1 + (q : Int)) (by omega) (by omega) Ga] at this
      rw [hr]
      exact this
    · rw [if_neg hr, if_neg hr]
      rw [Tm.checkT_no (1 + (q : Int)) r (by omega) (by omega) Ga (fun h => hr h.symm)] at this
      exact this
  generalize (120 :: ([105, UInt8.ofNat (1 + (q : Int)).toNat] ++ a)) = sg at *
  generalize [105, UInt8.ofNat (1 + (q : Int)).toNat] = own at *
  have HOwn := Lib.hid cOwn
  have HSg := Lib.hid cSg
  have HCk := Lib.hid cCk
  clear cOwn cSg cCk eP Go Ga Gb Gc
  go_wp2_with fail
  refine (HPq.out _).mono ?_
  rintro e' w' ⟨rfl, rfl⟩
  go_wp2_with fail
  refine (HOwn.out _).mono ?_
  rintro e' w3 ⟨rfl, b3⟩
  go_wp2_with fail
  refine (HSg.out _).mono ?_
  rintro e' w4 ⟨rfl, b4⟩
  have b34 := b3.trans (b4.mono b3.size)
  replace B := B.trans (b34.mono B.size)
  have HT4 := Lib.hid (HT2.out.below b34 hgl2)
  have hgl4 : g < w4.heap.size := Nat.lt_of_lt_of_le hgl2 b34.size
  clear b3 b4 b34 HT2 hgl2 HOwn HSg
  have BB := Lib.hid B
  clear B
  go_wp2
  go_loopg [20] ts.length (fun k v20 wr => Going w4 ts.length k v20 wr)
  case atStart => exact ⟨0, by omega, rfl, Below.refl _ _⟩
  case round =>
    obtain ⟨n, hk, rfl, hbel⟩ := hrel
    by_cases hn : n < ts.length
    · obtain ⟨t, ht⟩ : ∃ t, ts[n]? = some t := ⟨_, List.getElem?_eq_getElem hn⟩
      have hcell : wr.cell? ⟨g, n, none⟩ = some (.string ⟨t.toArray⟩) := (HT4.out.below hbel hgl4) n t ht
      have j1 : (n : Int) < (ts.length : Int) := by omega
      have j2 : (0 : Int) ≤ (n : Int) := by omega
      have hh := HAll.out
      have hsll : sl.length ≤ 20000 := by rw [← HSl.out]; exact (Tm.fine_three hh.1 hh.2.1 hh.2.2).2.2
      have cO := fun W => open_at (l := sl) (k := t) hsll W
      have hval : (t = a ∧ (Tm.openT sl t).2.2 = 0) ∨ (t ≠ a ∧ (Tm.openT sl t).2.2 = 6) := by
        rw [← HSl.out]
        by_cases hta : t = a
        · exact .inl ⟨hta, by rw [hta, Tm.openT_yes hh.1 hh.2.1 hh.2.2]⟩
        · exact .inr ⟨hta, by rw [Tm.openT_no hh.1 hh.2.1 hh.2.2 (fun h : a = t => hta h.symm)]⟩
      generalize Tm.openT sl t = r at *
      obtain ⟨r1, r2, r3⟩ := r
      simp only at cO hval
      have hor := hval
      clear hh hsll hval
      have HO := Lib.hid cO
      have HTn := Lib.hid ht
      clear cO ht
      rcases hor with ⟨rfl, rfl⟩ | ⟨hta, rfl⟩
      · have q1 : (t == t) = true := by simp
        go_wp2_with fail
        refine (HO.out _).mono ?_
        rintro e' w5 ⟨rfl, b5⟩
        have B5 : Below w4.heap.size w4 w5 := hbel.trans (b5.mono hbel.size)
        have hcell5 : w5.cell? ⟨g, n, none⟩ = some (.string ⟨t.toArray⟩) := (HT4.out.below B5 hgl4) n t HTn.out
        clear b5 hbel hcell
        go_wp2
        go_roundg (gk - 1)
        case measure => omega
        case rel => exact ⟨n + 1, by omega, rfl, B5⟩
      · have q1 : (t == a) = false := by simpa using hta
        go_wp2_with fail
        refine (HO.out _).mono ?_
        rintro e' w5 ⟨rfl, b5⟩
        have B5 : Below w4.heap.size w4 w5 := hbel.trans (b5.mono hbel.size)
        have hcell5 : w5.cell? ⟨g, n, none⟩ = some (.string ⟨t.toArray⟩) := (HT4.out.below B5 hgl4) n t HTn.out
        clear b5 hbel hcell
        go_wp2
        go_roundg (gk - 1)
        case measure => omega
        case rel => exact ⟨n + 1, by omega, rfl, B5⟩
    · obtain rfl : n = ts.length := by omega
      have j1 : ¬ ((ts.length : Int) < (ts.length : Int)) := by omega
      obtain ⟨wz, hwz⟩ : ∃ wz, wz = wr := ⟨_, rfl⟩
      rw [← hwz] at hbel ⊢
      have BZ := Lib.hid (BB.out.trans (hbel.mono BB.out.size))
      clear hwz hbel HT4 HAll HG HSl
      go_wp2
      go_loopg [24, 25] 10 (fun k v24 v25 wr => Signers wz q k v24 v25 wr)
      case atStart => exact ⟨0, by omega, rfl, by simp, Below.refl _ _⟩
      case round =>
        obtain ⟨r, hk2, rfl, rfl, hbel⟩ := hrel
        by_cases hr : r < 10
        · have l1 : (r : Int) ≤ 9 := by omega
          have l2 : (0 : Int) ≤ (r : Int) := by omega
          have cC := fun W => HCk.out (r : Int) W
          by_cases hrq : r = 1 + q
          · have hI : (r : Int) = 1 + (q : Int) := by omega
            rw [if_pos hI, if_pos hI] at cC
            have hm : (if 1 + q < r then 1 else 0 : Nat) = 0 := by rw [if_neg (by omega)]
            rw [hm]
            have HC := Lib.hid cC
            have q1 : (a == a) = true := by simp
            have q2 : ((r : Int) != 1 + (q : Int)) = false := by simp; omega
            have HRQ := Lib.hid hrq
            clear cC hm hI hrq
            go_wp2_with fail
            refine (HC.out _).mono ?_
            rintro e' w5 ⟨rfl, b5⟩
            have B5 : Below wz.heap.size wz w5 := hbel.trans (b5.mono hbel.size)
            clear b5 hbel
            go_wp2_with fail
            refine (HPq.out _).mono ?_
            rintro e' w' ⟨rfl, rfl⟩
            go_wp2
            go_roundg (gk - 1)
            case measure => omega
            case rel => exact ⟨r + 1, by omega, rfl, by rw [if_pos (by have := HRQ.out; omega)]; rfl, B5⟩
          · have hI : ¬ (r : Int) = 1 + (q : Int) := by omega
            rw [if_neg hI, if_neg hI] at cC
            have hm : (if 1 + q < r + 1 then 1 else 0 : Nat) = (if 1 + q < r then 1 else 0 : Nat) := by
              by_cases h : 1 + q < r
              · rw [if_pos h, if_pos (by omega)]
              · rw [if_neg h, if_neg (by omega)]
            have HMm := Lib.hid hm
            have HC := Lib.hid cC
            generalize (if 1 + q < r then 1 else 0 : Nat) = many at *
            clear cC hm hI
            go_wp2_with fail
            refine (HC.out _).mono ?_
            rintro e' w5 ⟨rfl, b5⟩
            have B5 : Below wz.heap.size wz w5 := hbel.trans (b5.mono hbel.size)
            clear b5 hbel
            go_wp2
            go_roundg (gk - 1)
            case measure => omega
            case rel => exact ⟨r + 1, by omega, rfl, by rw [HMm.out], B5⟩
        · obtain rfl : r = 10 := by omega
          have hm : (if 1 + q < 10 then 1 else 0 : Nat) = 1 := by rw [if_pos (by omega)]
          rw [hm]
          go_wp2
          go_ret
          exact ⟨by simp, BZ.out.trans (hbel.mono BZ.out.size)⟩

end L2
end Go.Proofs.Ytccdpimmmicgaaa
