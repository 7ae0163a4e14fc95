/- Rows that are written out; the chapter's example: shown returns true. -/
import Derived.Test.YtkalmfhebffklaaCtLaw
namespace Go.Proofs.Ytkalmfhebffklaa.L11
open Go.ChangeShapes Go.WideShapes Go.ChangeAt Go.RowKit Go.Deep

theorem CellsA.of_block {k : Nat} {w : World} {g c : Nat} {cur : Array Value} {t : TypeId} {css : List (List Value)} (h : w.heap[g]? = some (.cells cur t (0, 0))) (hc : cur.toList = css.flatten) (hk : ∀ x ∈ css, x.length = k) (hf : css.length ≤ maxLen) : CellsA k w (.slice (some ⟨g, 0, none⟩) css.length c) css := by
  refine ⟨_, c, rfl, hf, fun j x hx => ⟨_, rfl, (Array.getElem?_eq_some_iff.1 h).1, fun i u hu => ?_⟩⟩
  have hx2 : x.length = k := hk x (List.mem_of_getElem? hx)
  have hi : i < k := by rw [← hx2]; exact (List.getElem?_eq_some_iff.1 hu).1
  rw [add_zeroC, box_cell h, ← Array.getElem?_toList, hc, flat_at hk hx i hi]
  exact hu
theorem ItAt.of_block {w : World} {g c : Nat} {cur : Array Value} {t : TypeId} {l : List Bytes} (h : w.heap[g]? = some (.cells cur t (0, 0))) (hc : cur.toList = txt l) (hl : l.length ≤ c) (hm : c ≤ maxLen) (hs : ∀ z ∈ l, z.length ≤ maxLen) : ItAt w ⟨some ⟨g, 0, none⟩, c, l⟩ :=
  ⟨hl, hm, (fun e => by cases e), hs, fun j z hz => ⟨_, rfl, (Array.getElem?_eq_some_iff.1 h).1, by rw [add_zeroC, box_cell h, ← Array.getElem?_toList, hc, txt, List.getElem?_map, hz]; rfl⟩⟩
theorem PartsA.one {w : World} {v : Value} {q : Pt} (h : PartsA w v [q]) : ∃ (ad : Addr) (c : Nat), v = .slice (some ad) 1 c ∧ ItAt w q.it ∧ ∀ V, Below w.heap.size w V → V.cell? ad = some (.int .i64 q.ep) ∧ V.cell? ⟨ad.block, ad.off + 1, none⟩ = some (.int .i64 q.co) ∧ V.cell? ⟨ad.block, ad.off + 2, none⟩ = some (.int .i64 q.se) ∧ V.cell? ⟨ad.block, ad.off + 3, none⟩ = some q.it.v := by
  obtain ⟨A, c, e, _, hr⟩ := parts_read h
  obtain ⟨ad, rfl, h1, h2, h3⟩ := hr 0 q rfl
  refine ⟨ad, c, e, h1, fun V hV => ?_⟩
  obtain ⟨k0, k1, k2, k3⟩ := h3 V hV
  have e0 : ad.add (0 * 4) = ad := by simp [Addr.add]
  rw [e0] at k0 k1 k2 k3
  exact ⟨k0, k1, k2, k3⟩
theorem LogsA.one {w : World} {v : Value} {q : Lg} (h : LogsA w v [q]) : ∃ (ad : Addr) (c : Nat), v = .slice (some ad) 1 c ∧ ItAt w q.it ∧ ∀ V, Below w.heap.size w V → V.cell? ad = some (.int .i64 q.se) ∧ V.cell? ⟨ad.block, ad.off + 1, none⟩ = some q.it.v := by
  obtain ⟨A, c, e, _, hr⟩ := logs_read h
  obtain ⟨ad, rfl, h1, h2, h3⟩ := hr 0 q rfl
  refine ⟨ad, c, e, h1, fun V hV => ?_⟩
  obtain ⟨k0, k1⟩ := h3 V hV
  have e0 : ad.add (0 * 2) = ad := by simp [Addr.add]
  rw [e0] at k0 k1
  exact ⟨k0, k1⟩
theorem core_one {qs : List Pt} {c : Core} (h : qs.map Pt.core = [c]) : ∃ q, qs = [q] ∧ q.core = c := by
  match qs, h with
  | [q], h => exact ⟨q, rfl, by simpa using h⟩
theorem lcore_one {qs : List Lg} {c : LCore} (h : qs.map Lg.core = [c]) : ∃ q, qs = [q] ∧ q.core = c := by
  match qs, h with
  | [q], h => exact ⟨q, rfl, by simpa using h⟩
theorem RepsA.of_block {w : World} {g c : Nat} {cur : Array Value} {t : TypeId} (rs : List Rp) (h : w.heap[g]? = some (.cells cur t (0, 0))) (hc : cur.toList = (rs.map Rp.cells).flatten) (hf : rs.length ≤ maxLen) (hi : ∀ r ∈ rs, LogsA w r.lv r.lg ∧ isInt r.ep ∧ isInt r.co) : RepsA w (.slice (some ⟨g, 0, none⟩) rs.length c) rs := by
  have := CellsA.of_block (c := c) h hc (rp_four rs) (by rw [List.length_map]; exact hf)
  rw [List.length_map] at this
  exact ⟨this, hi⟩
abbrev tg : Bytes := [103]
abbrev thg : Bytes := [104, 103]
theorem lg_cells1 {w : World} {g c : Nat} {t : TypeId} {l : Lg} (h : w.heap[g]? = some (.cells #[.int .i64 l.se, l.it.v] t (0, 0))) (hi : ItAt w l.it) (hs : isInt l.se) : LogsA w (.slice (some ⟨g, 0, none⟩) 1 c) [l] :=
  ⟨CellsA.of_block (css := [l.cells]) h rfl (lg_two [l]) (by simp [maxLen]), fun x hx => by simp at hx; subst hx; exact ⟨hi, hs⟩⟩
theorem logs_none (w : World) (c : Nat) : LogsA w (.slice none 0 c) [] := ⟨⟨none, c, rfl, by simp, fun j x hx => by simp at hx⟩, by simp⟩
theorem isInt_small (n : Nat) (h : n ≤ 1000000) : isInt (n : Int) := by unfold isInt; omega

set_option maxRecDepth 100000 in
set_option maxHeartbeats 8000000 in
theorem shown_calls (w : World) : Calls Try.prog 10 #[] w (One w (.bool true)) := by
  obtain ⟨W1, hW1⟩ : ∃ W1, w.alloc (.cells #[.string ⟨#[103]⟩] 31) = W1 := ⟨_, rfl⟩
  obtain ⟨p1, b1, s1⟩ := box_new hW1
  obtain ⟨W2, hW2⟩ : ∃ W2, W1.alloc (.cells #[.int .i64 1, .slice (some ⟨w.heap.size, 0, none⟩) 1 1] 76) = W2 := ⟨_, rfl⟩
  obtain ⟨p2, b2, s2⟩ := box_new hW2
  obtain ⟨W3, hW3⟩ : ∃ W3, W2.alloc (.cells #[.string ⟨#[103]⟩, .string ⟨#[104, 103]⟩] 31) = W3 := ⟨_, rfl⟩
  obtain ⟨p3, b3, s3⟩ := box_new hW3
  obtain ⟨W4, hW4⟩ : ∃ W4, W3.alloc (.cells #[.int .i64 1, .slice (some ⟨W2.heap.size, 0, none⟩) 2 2] 76) = W4 := ⟨_, rfl⟩
  obtain ⟨p4, b4, s4⟩ := box_new hW4
  obtain ⟨W5, hW5⟩ : ∃ W5, W4.alloc (.cells #[.int .i64 1, .int .i64 0, .int .i64 0, .slice (some ⟨W1.heap.size, 0, none⟩) 1 1, .int .i64 2, .int .i64 0, .int .i64 0, .slice (some ⟨W3.heap.size, 0, none⟩) 1 1, .int .i64 3, .int .i64 0, .int .i64 0, .slice none 0 0] 73) = W5 := ⟨_, rfl⟩
  obtain ⟨p5, b5, s5⟩ := box_new hW5
  have hi1 : ItAt W1 ⟨some ⟨w.heap.size, 0, none⟩, 1, [tg]⟩ := ItAt.of_block p1 rfl (by simp) (by simp [maxLen]) (by simp [maxLen])
  have hl1 : LogsA W2 (.slice (some ⟨W1.heap.size, 0, none⟩) 1 1) [⟨1, ⟨some ⟨w.heap.size, 0, none⟩, 1, [tg]⟩⟩] := lg_cells1 (l := ⟨1, ⟨some ⟨w.heap.size, 0, none⟩, 1, [tg]⟩⟩) p2 (hi1.below b2) (isInt_small 1 (by omega))
  have hi2 : ItAt W3 ⟨some ⟨W2.heap.size, 0, none⟩, 2, [tg, thg]⟩ := ItAt.of_block p3 rfl (by simp) (by simp [maxLen]) (by simp [maxLen])
  have hl2 : LogsA W4 (.slice (some ⟨W3.heap.size, 0, none⟩) 1 1) [⟨1, ⟨some ⟨W2.heap.size, 0, none⟩, 2, [tg, thg]⟩⟩] := lg_cells1 (l := ⟨1, ⟨some ⟨W2.heap.size, 0, none⟩, 2, [tg, thg]⟩⟩) p4 (hi2.below b4) (isInt_small 1 (by omega))
  have hl15 := ((hl1.below b3).below b4).below b5
  have hl25 := hl2.below b5
  have hR : RepsA W5 (.slice (some ⟨W4.heap.size, 0, none⟩) 3 3) [⟨1, 0, 0, .slice (some ⟨W1.heap.size, 0, none⟩) 1 1, [⟨1, ⟨some ⟨w.heap.size, 0, none⟩, 1, [tg]⟩⟩]⟩, ⟨2, 0, 0, .slice (some ⟨W3.heap.size, 0, none⟩) 1 1, [⟨1, ⟨some ⟨W2.heap.size, 0, none⟩, 2, [tg, thg]⟩⟩]⟩, ⟨3, 0, 0, .slice none 0 0, []⟩] := by
    refine RepsA.of_block [_, _, _] p5 rfl (by simp [maxLen]) (fun r hr => ?_)
    have z0 : isInt 0 := isInt_small 0 (by omega)
    simp only [List.mem_cons, List.not_mem_nil, or_false] at hr
    rcases hr with rfl | rfl | rfl
    · exact ⟨hl15, z0, z0⟩
    · exact ⟨hl25, z0, z0⟩
    · exact ⟨logs_none _ _, z0, z0⟩
  have hcut := cut_calls W5 hR (by simp [ptsOf]) (fun p hp => by
    rcases fold_mem hp with hp | ⟨hp, _⟩
    · simp at hp
    · simp [ptsOf] at hp
      rcases hp with rfl | rfl <;> simp)
  have hcp : (cutP [⟨1, 0, 0, .slice (some ⟨W1.heap.size, 0, none⟩) 1 1, [⟨1, ⟨some ⟨w.heap.size, 0, none⟩, 1, [tg]⟩⟩]⟩, ⟨2, 0, 0, .slice (some ⟨W3.heap.size, 0, none⟩) 1 1, [⟨1, ⟨some ⟨W2.heap.size, 0, none⟩, 2, [tg, thg]⟩⟩]⟩, ⟨3, 0, 0, .slice none 0 0, []⟩]).map Pt.core = [(0, 0, 1, [tg, thg])] := by
    simp [cutP, ptsOf, stepP, insP, keyP, Pt.core]
  rw [hcp] at hcut
  have HCut := Lib.hid hcut
  have HL5 := Lib.hid hl15
  have HB5 : Hid (Below w.heap.size w W5) := b1.trans ((b2.mono b1.size).trans ((b3.mono (Nat.le_trans b1.size b2.size)).trans ((b4.mono (Nat.le_trans (Nat.le_trans b1.size b2.size) b3.size)).trans (b5.mono (Nat.le_trans (Nat.le_trans (Nat.le_trans b1.size b2.size) b3.size) b4.size)))))
  clear hcp hcut hR hl15 hl25 hl1 hl2 hi1 hi2 p1 p2 p3 p4 p5 b1 b2 b3 b4 b5 s1 s2 s3 s4 s5
  go_enter Try.func10, Try.ntmps10
  go_wp2_with fail
  refine HCut.out.mono ?_
  rintro e w6 ⟨v, qs, rfl, hq, hP, b6⟩
  obtain ⟨q, rfl, hq1⟩ := core_one hq
  simp only [Pt.core, Prod.mk.injEq] at hq1
  have HMi := miss_calls (ep := 0) (co := 0) w6 hP (HL5.out.below b6) (by simp) (by simp) (fun p hp => by simp at hp; subst hp; rw [hq1.2.2.2]; simp)
  have hmc : missC ([q].map Pt.core) 0 0 ([(⟨1, ⟨some ⟨w.heap.size, 0, none⟩, 1, [tg]⟩⟩ : Lg)].map Lg.core) = [(1, [thg])] := by
    simp only [List.map_cons, List.map_nil, Pt.core, hq1.1, hq1.2.1, hq1.2.2.1, hq1.2.2.2]
    simp [missC, missOne, ownC, Lg.core, beginsL]
  rw [hmc] at HMi
  have HMi := Lib.hid HMi
  obtain ⟨ad, c, rfl, hqi, hqc⟩ := hP.one
  have HQ := Lib.hid hqi
  have HC := Lib.hid hqc
  have HB6 : Hid (Below w.heap.size w w6) := HB5.out.trans (b6.mono HB5.out.size)
  obtain ⟨k0, k1, k2, k3⟩ := hqc w6 (Below.refl _ _)
  have hsq := hq1.2.2.1
  have hlq := hq1.2.2.2
  clear hq hP hqi hqc hmc HCut hq1 b6 HL5 HB5
  go_wp2_with fail
  refine HMi.out.mono ?_
  rintro e w7 ⟨v2, ms, rfl, hm, hL, b7⟩
  obtain ⟨l, rfl, hm1⟩ := lcore_one hm
  simp only [Lg.core, Prod.mk.injEq] at hm1
  obtain ⟨ad2, c2, rfl, hli, hlc⟩ := hL.one
  obtain ⟨k0, k1, k2, k3⟩ := HC.out w7 b7
  obtain ⟨m0, m1⟩ := hlc w7 (Below.refl _ _)
  have HB7 : Hid (Below w.heap.size w w7) := HB6.out.trans (b7.mono HB6.out.size)
  obtain ⟨W8, hW8⟩ : ∃ W8, w7.alloc (.cells #[.string ⟨#[103]⟩, .string ⟨#[104, 103]⟩] 9) = W8 := ⟨_, rfl⟩
  obtain ⟨p8, b8, _⟩ := box_new hW8
  have hy8 : ItAt W8 ⟨some ⟨w7.heap.size, 0, none⟩, 2, [tg, thg]⟩ := ItAt.of_block p8 rfl (by simp) (by simp [maxLen]) (by simp [maxLen])
  have HS1 := Lib.hid (same_calls q.it ⟨some ⟨w7.heap.size, 0, none⟩, 2, [tg, thg]⟩ W8 ((HQ.out.below b7).below b8) hy8)
  simp only [hlq, decide_true] at HS1
  have HX : Hid (∀ w9, Below W8.heap.size W8 w9 → (w9.cell? ad2 = some (.int .i64 l.se) ∧ w9.cell? ⟨ad2.block, ad2.off + 1, none⟩ = some l.it.v) ∧ ItAt w9 l.it ∧ Below w.heap.size w w9) := fun w9 b9 => by
    have b79 : Below w7.heap.size w7 w9 := b8.trans (b9.mono b8.size)
    exact ⟨hlc w9 b79, hli.below b79, HB7.out.trans (b79.mono HB7.out.size)⟩
  obtain ⟨qe, qc, qs, ⟨qa, qk, ql⟩⟩ := q
  obtain ⟨ls, ⟨la, lk, ll⟩⟩ := l
  simp only [It.v] at *
  obtain rfl := hsq
  obtain rfl := hlq
  obtain ⟨rfl, rfl⟩ := hm1
  simp only [List.length_cons, List.length_nil, Nat.zero_add, Nat.reduceAdd] at *
  clear hL hlc hli hm b7 b8 p8 hy8 HC HQ HB6 HB7 m0 m1 HMi
  go_wp2_with fail
  refine HS1.out.mono ?_
  rintro e w9 ⟨rfl, b9⟩
  obtain ⟨⟨n0, n1⟩, hli9, hb9⟩ := HX.out w9 b9
  obtain ⟨W10, hW10⟩ : ∃ W10, w9.alloc (.cells #[.string ⟨#[104, 103]⟩] 9) = W10 := ⟨_, rfl⟩
  obtain ⟨p10, b10, _⟩ := box_new hW10
  have hy10 : ItAt W10 ⟨some ⟨w9.heap.size, 0, none⟩, 1, [thg]⟩ := ItAt.of_block p10 rfl (by simp) (by simp [maxLen]) (by simp [maxLen])
  have HS2 := Lib.hid (same_calls ⟨la, lk, [thg]⟩ ⟨some ⟨w9.heap.size, 0, none⟩, 1, [thg]⟩ W10 (hli9.below b10) hy10)
  have HB10 : Hid (Below w.heap.size w W10) := hb9.trans (b10.mono hb9.size)
  simp only [It.v, List.length_cons, List.length_nil, Nat.zero_add, decide_true] at HS2
  clear b9 hli9 hb9 b10 p10 hy10 HX HS1 k0 k1 k2 k3
  go_wp2_with fail
  refine HS2.out.mono ?_
  rintro e w11 ⟨rfl, b11⟩
  have HF : Hid (Below w.heap.size w w11) := HB10.out.trans (b11.mono HB10.out.size)
  clear b11 HS2
  go_wp2
  go_ret
  exact ⟨rfl, HF.out⟩
end Go.Proofs.Ytkalmfhebffklaa.L11
