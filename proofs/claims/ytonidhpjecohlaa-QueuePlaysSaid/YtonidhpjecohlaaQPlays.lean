/- The law QueuePlays: for all rooms and acts it returns true. -/
import Derived.Test.YtonidhpjecohlaaQStep
import Derived.Deep.CutBlock
import Derived.Deep.DeepCutAuto
namespace Go.Proofs.Ytonidhpjecohlaa.L6
open Go.ChangeShapes Go.WideShapes Go.ChangeAt Go.RowKit L5

structure PlayGo (w0 : World) (B ga ca rm gb cb rm' hx hy n k : Nat) (v : Value) (W : World) : Prop where
  ex : ∃ i, k + i = n ∧ v = .int .i64 i ∧ PlayEx w0 B ga ca rm gb cb rm' hx hy W

theorem RAt.base {W : World} {h room B B' : Nat} (r : RAt W h room B (.slice none 0 0) []) : RAt W h room B' (.slice none 0 0) [] := ⟨r.own, Tail.nil _ _ _⟩

set_option maxRecDepth 100000 in
set_option maxHeartbeats 8000000 in
theorem plays_all (room other : Int) (A : Option Addr) (n c0 : Nat) (w : World) (hA : Acts w A n) (hn : n ≤ maxLen) (ho : isInt other) : Calls Try.prog 3 #[.int .i64 room, .int .i64 other, .slice A n c0] w (One w (.bool true)) := by
  have HS := Lib.hid shown_calls
  have HA := Lib.hid hA
  unfold maxLen at hn
  clear hA
  by_cases hlen : 80 < n
  · have j1 : (80 : Int) < (n : Int) := by omega
    go_enter Try.func3, Try.ntmps3
    go_wp2_with fail
    refine (HS.out _).mono ?_
    rintro e w1 ⟨rfl, b1⟩
    have HB := Lib.hid b1
    clear b1
    go_wp2
    go_ret
    exact ⟨rfl, HB.out⟩
  have j1 : ¬ (80 : Int) < (n : Int) := by omega
  have HLe := Lib.hid (Nat.le_of_not_lt hlen)
  have HP := Lib.hid (fun V => pick_is ho (n := 5) (by omega) (by omega) V)
  have hlt := pickN_lt other (n := 5) (by omega)
  generalize pickN other 5 = p at *
  obtain ⟨m, hm⟩ : ∃ m, 1 + p = m := ⟨_, rfl⟩
  have hmI : (1 : Int) + (p : Int) = (m : Int) := by omega
  have hmb1 : (1 : Int) ≤ (m : Int) := by omega
  have hmb2 : (m : Int) ≤ 5 := by omega
  have hpb : (p : Int) ≤ 4 := by omega
  have HMb := Lib.hid (show 1 ≤ m ∧ m ≤ 5 by omega)
  have HNm := Lib.hid (fun V => (New_calls m V).mono (fun e w' h => h.2 m rfl HMb.out.1 (by have := HMb.out.2; omega)))
  have HRm := Lib.hid (fun V => (RNew_calls 0 m V).mono (fun e w' h => h.2 m rfl HMb.out.1 (by have := HMb.out.2; omega)))
  clear hlen hlt ho hm hn
  by_cases hro : 1 ≤ room ∧ room ≤ 1000
  rotate_left
  · have HN := Lib.hid (fun V => (New_calls room V).mono (fun e w' h => h.1 hro))
    have HRn := Lib.hid (fun V => (RNew_calls 0 room V).mono (fun e w' h => h.1 hro))
    clear hro
    by_cases hn0 : n = 0
    all_goals
      first
      | (subst hn0)
      | (have j2 : (0 : Int) < (n : Int) := by omega)
      go_enter Try.func3, Try.ntmps3
      go_wp2_with fail
      refine (HS.out _).mono ?_
      rintro e w1 ⟨rfl, b1⟩
      have HB := Lib.hid b1
      clear b1
      go_wp2_with fail
      refine (HN.out _).mono ?_
      rintro e w2 ⟨rfl, rfl⟩
      go_wp2_with fail
      refine (HRn.out _).mono ?_
      rintro e w2 ⟨rfl, rfl⟩
      go_wp2_with fail
      refine (HP.out _).mono ?_
      rintro e w2 ⟨rfl, rfl⟩
      go_wp2_with fail
      refine (HNm.out _).mono ?_
      rintro e w2 ⟨rfl, _, hb, _⟩
      have HB2 := Lib.hid (HB.out.trans (hb.mono HB.out.size))
      clear hb
      go_wp2_with fail
      refine (HP.out _).mono ?_
      rintro e w3 ⟨rfl, rfl⟩
      go_wp2_with fail
      refine (HRm.out _).mono ?_
      rintro e w3 ⟨rfl, _, hb, _⟩
      have HB3 := Lib.hid (HB2.out.trans (hb.mono HB2.out.size))
      clear hb
      go_wp2
      go_loopg [16] 0 (fun k v16 wr => k = 0 ∧ v16 = .int .i64 0 ∧ wr = w3)
      case atStart => exact ⟨rfl, rfl, rfl⟩
      case round =>
        obtain ⟨rfl, rfl, rfl⟩ := hrel
        go_wp2
        go_ret
        exact ⟨rfl, HB3.out⟩
  obtain ⟨rm, rfl⟩ : ∃ rm : Nat, room = rm := ⟨room.toNat, by omega⟩
  have HR := Lib.hid (show 1 ≤ rm ∧ rm ≤ 1000 by omega)
  have HN := Lib.hid (fun V => (New_calls rm V).mono (fun e w' h => h.2 rm rfl HR.out.1 HR.out.2))
  have HRn := Lib.hid (fun V => (RNew_calls 0 rm V).mono (fun e w' h => h.2 rm rfl HR.out.1 HR.out.2))
  clear hro
  go_enter Try.func3, Try.ntmps3
  go_wp2_with fail
  refine (HS.out _).mono ?_
  rintro e w1 ⟨rfl, b1⟩
  have HB := Lib.hid b1
  clear b1
  go_wp2_with fail
  refine (HN.out _).mono ?_
  rintro e w2 ⟨rfl, q2, b2, s2⟩
  have H2 := Lib.hid (And.intro q2 (And.intro b2 s2))
  clear q2 b2 s2
  go_wp2_with fail
  refine (HRn.out _).mono ?_
  rintro e w3 ⟨rfl, q3, b3, s3⟩
  have H3 := Lib.hid (And.intro q3 (And.intro b3 s3))
  clear q3 b3 s3
  go_wp2_with fail
  refine (HP.out _).mono ?_
  rintro e w4 ⟨rfl, rfl⟩
  go_wp2_with fail
  refine (HNm.out _).mono ?_
  rintro e w4 ⟨rfl, q4, b4, s4⟩
  have H4 := Lib.hid (And.intro q4 (And.intro b4 s4))
  clear q4 b4 s4
  go_wp2_with fail
  refine (HP.out _).mono ?_
  rintro e w5 ⟨rfl, rfl⟩
  go_wp2_with fail
  refine (HRm.out _).mono ?_
  rintro e w5 ⟨rfl, q5, b5, s5⟩
  have H5 : Hid (PlayAt w w5.heap.size (w1.heap.size + 1) w1.heap.size rm (w3.heap.size + 1) w3.heap.size m w2.heap.size w4.heap.size w5 (.slice none 0 0) (.slice none 0 0) [] []) := by
    obtain ⟨q2, b2, s2⟩ := H2.out
    obtain ⟨q3, b3, s3⟩ := H3.out
    obtain ⟨q4, b4, s4⟩ := H4.out
    have z1 := HB.out.size
    refine ⟨⟨((q2.below b3).below b4).below b5, q4.below b5, by omega⟩, ((q3.base (B' := w5.heap.size)).below b4).below b5, q5.base, by omega, fun q h => by simp [Value.ownBlock] at h, by simp, by simp, ⟨by omega, by omega, by omega, by omega, by omega⟩, ?_, Nat.le_refl _, HR.out.2, by have := HMb.out; omega⟩
    exact HB.out.trans ((b2.mono z1).trans ((b3.mono (by omega)).trans ((b4.mono (by omega)).trans (b5.mono (by omega)))))
  clear q5 b5 s5 H2 H3 H4 HNm HRm HN HRn HP
  go_wp2
  generalize w1.heap.size = ca at *
  generalize w2.heap.size = hx at *
  generalize w3.heap.size = cb at *
  generalize w4.heap.size = hy at *
  have HB6 : Hid (∃ B, PlayAt w B (ca + 1) ca rm (cb + 1) cb m hx hy w5 (.slice none 0 0) (.slice none 0 0) [] []) := ⟨_, H5.out⟩
  obtain ⟨B, hplay⟩ := HB6.out
  have HPl := Lib.hid hplay
  clear H5 HB6 hplay
  go_loopg [16] n (fun k v16 wr => PlayGo w B (ca + 1) ca rm (cb + 1) cb m hx hy n k v16 wr)
  case atStart => exact ⟨0, rfl, rfl, _, _, _, _, HPl.out⟩
  clear HPl
  case round =>
    obtain ⟨i, hk, rfl, hex⟩ := hrel.ex
    clear hrel
    by_cases hlt : i < n
    · obtain ⟨ad, o, x, rfl, hadb, ho, d1, d2⟩ := HA.out i hlt
      obtain ⟨vx, vy, la, lb, hpl⟩ := hex.ex
      have c1 : wr.cell? (ad.add (i * 2)) = some (.int .i64 o) := (hpl.bel.cell (p := ad.add (i * 2)) (by rw [addr_block]; exact hadb)).trans d1
      have c2 : wr.cell? ⟨(ad.add (i * 2)).block, (ad.add (i * 2)).off + 1, none⟩ = some (.string x) := (hpl.bel.cell (p := ⟨(ad.add (i * 2)).block, (ad.add (i * 2)).off + 1, none⟩) (by show (ad.add (i * 2)).block < _; rw [addr_block]; exact hadb)).trans d2
      have s1 : (i : Int) < (n : Int) := by omega
      have s2 : (0 : Int) ≤ (i : Int) := by omega
      have HPk := Lib.hid (pick_is ho (n := 6) (by omega) (by omega) wr)
      have hp6 := pickN_lt o (n := 6) (by omega)
      generalize pickN o 6 = t at *
      have hmm := Lib.hid (show gk - 1 < gk by omega)
      have hkk := Lib.hid (show (gk - 1) + (i + 1) = n by omega)
      have HPL := Lib.hid hpl
      clear d1 d2 hadb hk ho hex hpl hlt
      go_wp2_with fail
      refine HPk.out.mono ?_
      rintro e w6 ⟨rfl, rfl⟩
      go_upto_block 2 with fail
      go_cut [] (fun wc => PlayEx w B (ca + 1) ca rm (cb + 1) cb m hx hy wc)
      case first =>
        rcases (by omega : t = 0 ∨ t = 1 ∨ t = 2 ∨ t = 3 ∨ t = 4 ∨ t = 5) with rfl | rfl | rfl | rfl | rfl | rfl
        · skip
          obtain ⟨k, HC⟩ := push_both HPL.out x
          have HC1 := Lib.hid HC
          clear HC HPL c1 c2
          go_wp2_with fail
          refine HC1.out.mono ?_
          rintro e w7 ⟨rfl, HC2⟩
          clear HC1
          go_wp2_with fail
          refine HC2.out.mono ?_
          rintro e w8 ⟨rfl, HC3⟩
          clear HC2
          go_wp2_with fail
          go_meet
          exact HC3.out
        · skip
          obtain ⟨k, HC⟩ := push_both HPL.out x
          have HC1 := Lib.hid HC
          clear HC HPL c1 c2
          go_wp2_with fail
          refine HC1.out.mono ?_
          rintro e w7 ⟨rfl, HC2⟩
          clear HC1
          go_wp2_with fail
          refine HC2.out.mono ?_
          rintro e w8 ⟨rfl, HC3⟩
          clear HC2
          go_wp2_with fail
          go_meet
          exact HC3.out
        · skip
          obtain ⟨k, HC⟩ := push_both HPL.out.swap x
          have HC1 := Lib.hid HC
          clear HC HPL c1 c2
          go_wp2_with fail
          refine HC1.out.mono ?_
          rintro e w7 ⟨rfl, HC2⟩
          clear HC1
          go_wp2_with fail
          refine HC2.out.mono ?_
          rintro e w8 ⟨rfl, HC3⟩
          clear HC2
          go_wp2_with fail
          go_meet
          exact HC3.out.swap
        · skip
          obtain ⟨z, k, HC⟩ := pop_both HPL.out
          have HC1 := Lib.hid HC
          clear HC HPL c1 c2
          go_wp2_with fail
          refine HC1.out.mono ?_
          rintro e w7 ⟨rfl, HC2⟩
          clear HC1
          go_wp2_with fail
          refine HC2.out.mono ?_
          rintro e w8 ⟨rfl, HC3⟩
          clear HC2
          go_wp2_with fail
          go_meet
          exact HC3.out
        · skip
          obtain ⟨z, k, HC⟩ := either_both HPL.out
          have HC1 := Lib.hid HC
          clear HC HPL c1 c2
          go_wp2_with fail
          refine HC1.out.mono ?_
          rintro e w7 ⟨rfl, HC2⟩
          clear HC1
          go_wp2_with fail
          refine HC2.out.mono ?_
          rintro e w8 ⟨rfl, HC3⟩
          clear HC2
          go_wp2_with fail
          go_meet
          exact HC3.out
        · skip
          obtain ⟨z, k, HC⟩ := either_both HPL.out
          have HC1 := Lib.hid HC
          clear HC HPL c1 c2
          go_wp2_with fail
          refine HC1.out.mono ?_
          rintro e w7 ⟨rfl, HC2⟩
          clear HC1
          go_wp2_with fail
          refine HC2.out.mono ?_
          rintro e w8 ⟨rfl, HC3⟩
          clear HC2
          go_wp2_with fail
          go_meet
          exact HC3.out
      case rest =>
        obtain ⟨XX, rfl⟩ : ∃ z, z = wc := ⟨wc, rfl⟩
        obtain ⟨ux, uy, ka, kb, hpl⟩ := hcut.ex
        have HPX := Lib.hid hpl
        clear hcut HPL c1 c2
        obtain ⟨Ax, cx, rfl⟩ := hpl.x.tail.slice
        obtain ⟨Ay, cy, rfl⟩ := hpl.y.tail.slice
        rw [strV_length, strV_length] at hpl HPX
        have g1 := hpl.x.cell1
        have g2 := hpl.y.cell1
        have HLa : Hid (∀ V, PlayAt w B (ca + 1) ca rm (cb + 1) cb m hx hy V (.slice Ax ka.length cx) (.slice Ay kb.length cy) ka kb → Calls Try.prog 17 #[.pointer (some ⟨ca + 1, 0, none⟩)] V fun e w' => e = .returned (.int .i64 ka.length) ∧ V = w') := fun V p => Len_calls p.two.one
        have HLb : Hid (∀ V, PlayAt w B (ca + 1) ca rm (cb + 1) cb m hx hy V (.slice Ax ka.length cx) (.slice Ay kb.length cy) ka kb → Calls Try.prog 17 #[.pointer (some ⟨cb + 1, 0, none⟩)] V fun e w' => e = .returned (.int .i64 kb.length) ∧ V = w') := fun V p => Len_calls p.two.two
        have HRa : Hid (∀ V, PlayAt w B (ca + 1) ca rm (cb + 1) cb m hx hy V (.slice Ax ka.length cx) (.slice Ay kb.length cy) ka kb → Calls Try.prog 19 #[.pointer (some ⟨ca + 1, 0, none⟩)] V fun e w' => ∃ v, e = .returned v ∧ SRow w' v ka ∧ PlayAt w B (ca + 1) ca rm (cb + 1) cb m hx hy w' (.slice Ax ka.length cx) (.slice Ay kb.length cy) ka kb ∧ w'.cell? ⟨hx, 1, none⟩ = some (.slice Ax ka.length cx) ∧ w'.cell? ⟨hy, 1, none⟩ = some (.slice Ay kb.length cy)) := fun V p => (rest_play p).mono fun e w' ⟨v, h1, h2, h3⟩ => ⟨v, h1, h2, h3, h3.x.cell1, h3.y.cell1⟩
        have HRb : Hid (∀ V, PlayAt w B (ca + 1) ca rm (cb + 1) cb m hx hy V (.slice Ax ka.length cx) (.slice Ay kb.length cy) ka kb → Calls Try.prog 19 #[.pointer (some ⟨cb + 1, 0, none⟩)] V fun e w' => ∃ v, e = .returned v ∧ SRow w' v kb ∧ PlayAt w B (ca + 1) ca rm (cb + 1) cb m hx hy w' (.slice Ax ka.length cx) (.slice Ay kb.length cy) ka kb ∧ w'.cell? ⟨hx, 1, none⟩ = some (.slice Ax ka.length cx) ∧ w'.cell? ⟨hy, 1, none⟩ = some (.slice Ay kb.length cy)) := fun V p => (rest_play p.swap).mono fun e w' ⟨v, h1, h2, h3⟩ => ⟨v, h1, h2, h3.swap, h3.swap.x.cell1, h3.swap.y.cell1⟩
        have HSa : Hid (∀ V v, PlayAt w B (ca + 1) ca rm (cb + 1) cb m hx hy V (.slice Ax ka.length cx) (.slice Ay kb.length cy) ka kb → SRow V v ka → Calls Try.prog 18 #[v, .slice Ax ka.length cx] V fun e w' => e = .returned (.bool true) ∧ PlayAt w B (ca + 1) ca rm (cb + 1) cb m hx hy w' (.slice Ax ka.length cx) (.slice Ay kb.length cy) ka kb ∧ w'.cell? ⟨hx, 1, none⟩ = some (.slice Ax ka.length cx) ∧ w'.cell? ⟨hy, 1, none⟩ = some (.slice Ay kb.length cy)) := fun V v p h => (same_play p h).mono fun e w' ⟨h1, h3⟩ => ⟨h1, h3, h3.x.cell1, h3.y.cell1⟩
        have HSb : Hid (∀ V v, PlayAt w B (ca + 1) ca rm (cb + 1) cb m hx hy V (.slice Ax ka.length cx) (.slice Ay kb.length cy) ka kb → SRow V v kb → Calls Try.prog 18 #[v, .slice Ay kb.length cy] V fun e w' => e = .returned (.bool true) ∧ PlayAt w B (ca + 1) ca rm (cb + 1) cb m hx hy w' (.slice Ax ka.length cx) (.slice Ay kb.length cy) ka kb ∧ w'.cell? ⟨hx, 1, none⟩ = some (.slice Ax ka.length cx) ∧ w'.cell? ⟨hy, 1, none⟩ = some (.slice Ay kb.length cy)) := fun V v p h => (same_play p.swap h).mono fun e w' ⟨h1, h3⟩ => ⟨h1, h3.swap, h3.swap.x.cell1, h3.swap.y.cell1⟩
        have hd : PlayAt w B (ca + 1) ca rm (cb + 1) cb m hx hy XX.drew (.slice Ax ka.length cx) (.slice Ay kb.length cy) ka kb := hpl.drew
        clear hpl
        go_wp2
        go_region_held3 (fun w' => w'.cell? ⟨hx, 1, none⟩ = some (.slice Ax ka.length cx) ∧ w'.cell? ⟨hy, 1, none⟩ = some (.slice Ay kb.length cy) ∧ PlayAt w B (ca + 1) ca rm (cb + 1) cb m hx hy w' (.slice Ax ka.length cx) (.slice Ay kb.length cy) ka kb) ((go_split_ands; refine ⟨?_, ?_, ?_⟩ <;> first | assumption | (apply PlayAt.drew; assumption) | go_keep))
          (first
            | (go_at_call 17; first | ((with_reducible refine (HLa.out _ (by assumption)).mono ?_); rintro e' w2 ⟨rfl, rfl⟩) | ((with_reducible refine (HLb.out _ (by assumption)).mono ?_); rintro e' w2 ⟨rfl, rfl⟩))
            | (go_at_call 19; first | ((with_reducible refine (HRa.out _ (by assumption)).mono ?_); rintro e' w2 ⟨v2, rfl, hs2, hp2, hq2, hr2⟩) | ((with_reducible refine (HRb.out _ (by assumption)).mono ?_); rintro e' w3 ⟨v3, rfl, hs3, hp3, hq3, hr3⟩))
            | (go_at_call 18; first | ((with_reducible refine (HSa.out _ _ (by assumption) (by assumption)).mono ?_); rintro e' w4 ⟨rfl, hp4, hq4, hr4⟩) | ((with_reducible refine (HSb.out _ _ (by assumption) (by assumption)).mono ?_); rintro e' w5 ⟨rfl, hp5, hq5, hr5⟩)))
        have HF : Hid (PlayGo w B (ca + 1) ca rm (cb + 1) cb m hx hy n (gk - 1) (.int .i64 ((i + 1 : Nat) : Int)) w5) := ⟨i + 1, hkk.out, rfl, _, _, _, _, hp5⟩
        clear hp5 hq5 hr5 hp4 hq4 hr4 hp3 hq3 hr3 hp2 hq2 hr2 hs2 hs3 HLa HLb HRa HRb HSa HSb HPX
        go_wp2
        go_roundg (gk - 1)
        case measure => exact hmm.out
        case rel => simpa using HF.out
    · have s1 : ¬ (i : Int) < (n : Int) := by omega
      obtain ⟨vx, vy, la, lb, hpl⟩ := hex.ex
      have HBf := Lib.hid hpl.bel
      clear hpl hex hk hlt
      go_wp2
      go_ret
      exact ⟨rfl, HBf.out⟩

end Go.Proofs.Ytonidhpjecohlaa.L6
