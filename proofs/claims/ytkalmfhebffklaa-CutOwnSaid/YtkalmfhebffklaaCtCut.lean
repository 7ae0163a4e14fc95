/- Contract of cut.Cut: the longest rows, by keys, in memory of the call's own. -/
import Derived.Test.YtkalmfhebffklaaCtLong
import Derived.Test.YtkalmfhebffklaaCtSort
import Derived.Test.YtkalmfhebffklaaCtClone
import Derived.Laws.OwnMore
import Derived.Deep.AppendLies
import Derived.Deep.Onto
namespace Go.Proofs.Ytkalmfhebffklaa.L11
open Go.ChangeShapes Go.WideShapes Go.ChangeAt Go.RowKit Go.Deep

/-- What a part says. -/
abbrev Core := Int × Int × Int × List Bytes
def Pt.core (p : Pt) : Core := (p.ep, p.co, p.se, p.it.l)
def CutGo (w : World) (v : Value) (ps : List Pt) (k : Nat) (vi : Value) (wr : World) : Prop :=
  ∃ (i : Nat) (qs : List Pt), k + i = ps.length ∧ vi = .int .i64 i ∧ qs.map Pt.core = (ps.take i).map Pt.core ∧ (∀ q ∈ qs, ItAt wr q.it ∧ intsP q ∧ ∀ ad, q.it.a = some ad → v.ownBlock ≠ some ad.block) ∧
    wr.ownsRow w.heap.size 60 4 v ps.length (flatP (qs ++ ps.drop i)) ∧ Below w.heap.size w wr
/-- Parts in memory of the call's own, that say this. -/
def PartsOut (w : World) (cs : List Core) (e : Ending) (w' : World) : Prop :=
  ∃ (v : Value) (qs : List Pt), e = .returned v ∧ qs.map Pt.core = cs ∧ PartsA w' v qs ∧ Below w.heap.size w w'
theorem cut_its {w : World} {v : Value} {rs : List Rp} (h : RepsA w v rs) : ∀ p ∈ cutP rs, ItAt w p.it ∧ intsP p := fun p hp => by
  rcases fold_mem hp with hp | ⟨hp, _⟩
  · simp at hp
  · obtain ⟨r, hr, hp⟩ := List.mem_flatMap.1 hp
    obtain ⟨l, hl, rfl⟩ := List.mem_map.1 hp
    obtain ⟨h1, h2, h3⟩ := h.its r hr
    obtain ⟨h4, h5⟩ := h1.its l hl
    exact ⟨h4, h2, h3, h5⟩
theorem cut_len (rs : List Rp) : (cutP rs).length ≤ (rs.flatMap ptsOf).length := by
  have := fold_len (xs := rs.flatMap ptsOf) (l := [])
  simpa [cutP] using this
theorem flat_store {ps qs : List Pt} {i : Nat} {p : Pt} (hi : ps[i]? = some p) (hq : qs.length = i) (x : It) :
    (flatP (qs ++ ps.drop i)).set (i * 4 + 3) x.v = flatP ((qs ++ [⟨p.ep, p.co, p.se, x⟩]) ++ ps.drop (i + 1)) ∧ (flatP (qs ++ ps.drop i))[i * 4 + 3]? = some p.it.v := by
  have hlt := (List.getElem?_eq_some_iff.1 hi).1
  have e : ps.drop i = p :: ps.drop (i + 1) := by rw [List.drop_eq_getElem_cons hlt, (List.getElem?_eq_some_iff.1 hi).2]
  have hf : (flatP qs).length = i * 4 := by rw [flatP_len, hq]
  have e2 : flatP (qs ++ ps.drop i) = flatP qs ++ (p.cells ++ flatP (ps.drop (i + 1))) := by rw [e]; simp [flatP]
  have e3 : flatP ((qs ++ [⟨p.ep, p.co, p.se, x⟩]) ++ ps.drop (i + 1)) = flatP qs ++ ((⟨p.ep, p.co, p.se, x⟩ : Pt).cells ++ flatP (ps.drop (i + 1))) := by simp [flatP]
  rw [e2, e3]
  constructor
  · rw [List.set_append_right _ _ (by omega), hf, show i * 4 + 3 - i * 4 = 3 by omega]
    rfl
  · rw [List.getElem?_append_right (by omega), hf, show i * 4 + 3 - i * 4 = 3 by omega]
    rfl
theorem ItAt.other {w W : World} {x : It} (h : ItAt w x) (hz : w.heap.size ≤ W.heap.size) (hs : ∀ ad, x.a = some ad → ad.block < w.heap.size → W.heap[ad.block]? = w.heap[ad.block]?) : ItAt W x :=
  ⟨h.le, h.few, h.nil, h.short, fun j z hj => by
    obtain ⟨ad, e, h1, h2⟩ := h.reads j z hj
    refine ⟨ad, e, Nat.lt_of_lt_of_le h1 hz, ?_⟩
    rw [World.cell?_of_block (w := w) (by rw [addr_blockC]; exact hs ad e h1)]
    exact h2⟩
set_option maxRecDepth 100000 in
set_option maxHeartbeats 8000000 in
theorem cut_calls {v : Value} {rs : List Rp} (w : World) (h : RepsA w v rs) (htot : (rs.flatMap ptsOf).length ≤ 1000000) (hits : ∀ p ∈ cutP rs, p.it.l.length ≤ 4000000000) : Calls Try.prog 29 #[v] w (PartsOut w ((cutP rs).map Pt.core)) := by
  have HL := Lib.hid (longest_calls w h htot)
  have HI := Lib.hid (cut_its h)
  have HT := Lib.hid htot
  have HLen := Lib.hid (Nat.le_trans (cut_len rs) htot)
  have HS := Lib.hid hits
  obtain ⟨ps, hps⟩ : ∃ ps, cutP rs = ps := ⟨_, rfl⟩
  rw [hps] at HI HLen HS ⊢
  have HPs := Lib.hid hps
  clear h hits htot hps
  go_enter Try.func29, Try.ntmps29
  go_wp2_with fail
  refine HL.out.mono ?_
  rintro e w1 ⟨n, rfl, hn, hm, b1⟩
  rw [HPs.out] at hm
  have HV := Lib.hid ((callsIn_wide (n := 0)).1 (values_in 0 (some w.heap.size) w1))
  have HM := Lib.hid hm
  have HN := Lib.hid (Nat.le_trans hn HT.out)
  have HB1 := Lib.hid b1
  clear hn hm b1 HL
  go_wp2_with fail
  refine HV.out.mono ?_
  rintro e w2 ⟨rfl, hw2⟩
  obtain ⟨q1, b2, s2⟩ := box_new hw2.symm
  have hm2 : MapW w2 w.heap.size n ps := HM.out.same (b2.block _ HM.out.lt)
  have HSo := Lib.hid ((callsIn_wide (n := 5)).1 (sorted_in 5 (Nat.le_refl _) w1.heap.size w.heap.size n ps w2 hm2 (by omega) (box_cell q1 0) HN.out HLen.out))
  have HB2 : Hid (Below w.heap.size w w2) := HB1.out.trans (b2.mono HB1.out.size)
  clear hm2 b2 s2 q1 hw2 HV HM HB1
  go_wp2_with fail
  refine HSo.out.mono ?_
  rintro e w3 ⟨u, rfl, hrow, b3⟩
  have hrow0 : w3.ownsRow w.heap.size 60 4 u ps.length (flatP ps) := hrow.mono HB2.out.size
  obtain ⟨A, c, rfl⟩ := L5.own_slice hrow0
  have H0 : Hid (CutGo w (.slice A ps.length c) ps ps.length (.int .i64 0) w3) := ⟨0, [], by omega, rfl, rfl, by simp, hrow0, HB2.out.trans (b3.mono HB2.out.size)⟩
  have hpl := HLen.out
  clear hrow hrow0 b3 HSo HB2
  go_wp2
  go_loopg [11] ps.length (fun k v11 wr => CutGo w (.slice A ps.length c) ps k v11 wr)
  case atStart => exact H0.out
  clear H0
  case round =>
    obtain ⟨i, qs, hk, rfl, hco, hit, hrow, hB⟩ := hrel
    have hql : qs.length = i := by
      have := congrArg List.length hco
      simp only [List.length_map, List.length_take] at this
      omega
    by_cases hil : i < ps.length
    · obtain ⟨p, hx⟩ : ∃ p, ps[i]? = some p := ⟨_, List.getElem?_eq_getElem hil⟩
      have hpm : p ∈ ps := List.mem_of_getElem? hx
      obtain ⟨hpi, hpt⟩ := HI.out p hpm
      obtain ⟨g, rfl⟩ : ∃ g, A = some ⟨g, 0, none⟩ := by
        rcases hrow.2 with ⟨_, h0⟩ | ⟨g, cap, cur, e, _⟩
        · omega
        · cases e; exact ⟨g, rfl⟩
      have hlt := (hrow.lt g rfl)
      have hcl := clone_calls p.it wr (hpi.below hB) (HS.out p hpm)
      have hcell : wr.cell? ⟨g, i * 4 + 3, none⟩ = some p.it.v := by rw [hrow.cellAt _ (by omega)]; exact (flat_store hx hql p.it).2
      have j1 : (i : Int) < (ps.length : Int) := by omega
      have j2 : (0 : Int) ≤ (i : Int) := by omega
      have hgk := Lib.hid (show gk - 1 < gk by omega)
      have HStep : Hid (∀ w4 (x : It), x.l = p.it.l → ItAt w4 x → (∀ ad, x.a = some ad → g ≠ ad.block) → Below wr.heap.size wr w4 → (w4.cell? ⟨g, i * 4 + 3, none⟩ = some p.it.v ∧ w4.frozen? ⟨g, i * 4 + 3, none⟩ = false) ∧ CutGo w (.slice (some ⟨g, 0, none⟩) ps.length c) ps (gk - 1) (.int .i64 ((i + 1 : Nat) : Int)) (w4.setCell ⟨g, i * 4 + 3, none⟩ x.v)) := fun w4 x hxl hxi hxg b4 => by
        have hr4 := L5.own_below hrow b4
        have hb4 := hB.trans (b4.mono hB.size)
        obtain ⟨k1, k2⟩ := hr4.stored (i * 4 + 3) x.v
        obtain ⟨e1, e2⟩ := flat_store hx hql x
        refine ⟨⟨by rw [hr4.cellAt _ (by omega)]; exact e2, hr4.frozenAt _⟩, i + 1, qs ++ [⟨p.ep, p.co, p.se, x⟩], by omega, rfl, ?_, ?_, by rw [e1] at k1; exact k1, hb4.setCell hlt.1 _⟩
        · rw [List.map_append, hco, take_nextR ps hx, List.map_append]
          simp [Pt.core, hxl]
        · have hset : ∀ y : It, ItAt w4 y → (∀ ad, y.a = some ad → g ≠ ad.block) → ItAt (w4.setCell ⟨g, i * 4 + 3, none⟩ x.v) y := fun y hy hne =>
            hy.other k2.size (fun ad e h1 => k2.block _ h1 (fun e' => hne ad e (by cases e'; rfl)))
          intro q hq
          rcases List.mem_append.1 hq with hq | hq
          · obtain ⟨h1, h2, h3⟩ := hit q hq
            exact ⟨hset _ (h1.below b4) (fun ad e e' => h3 ad e (by rw [← e']; rfl)), h2, h3⟩
          · simp at hq
            subst hq
            exact ⟨hset _ hxi hxg, hpt, fun ad e e' => hxg ad e (by cases e'; rfl)⟩
      obtain ⟨ep, co, se, ⟨A3, c3, l3⟩⟩ := p
      simp only [It.v] at hcl hcell HStep
      have HCl := Lib.hid hcl
      have hgs := hlt.2
      clear hk hco hit hrow hB hil hx hpm hpi hpt hql hlt hcl
      go_wp2_with fail
      refine HCl.out.mono ?_
      rintro e w4 ⟨x, rfl, hxl, hxi, hxo, b4⟩
      obtain ⟨⟨c0, c1⟩, hF⟩ := HStep.out w4 x hxl hxi (fun ad e e' => by have := (hxo.lt ad.block (by rw [It.v, e]; rfl)).1; omega) b4
      have HF := Lib.hid hF
      simp only [It.v] at HF ⊢
      clear hF HStep hxl hxi hxo b4 HCl hcell
      go_wp2
      go_roundg (gk - 1)
      case measure => exact hgk.out
      case rel => exact HF.out
    · obtain rfl : i = ps.length := by omega
      have j1 : ¬ ((ps.length : Int) < (ps.length : Int)) := by omega
      have HF : Hid (PartsOut w (ps.map Pt.core) (.returned (.slice A ps.length c)) wr) := by
        rw [List.take_length] at hco
        rw [List.drop_length, List.append_nil, ← hql] at hrow
        refine ⟨_, qs, rfl, hco, ?_, hB⟩
        have := PartsA.of_own hrow (by rw [hql]; unfold maxLen; omega) (fun p hp => ⟨(hit p hp).1, (hit p hp).2.1⟩)
        rw [hql] at this
        exact this
      clear hk hco hit hrow hB hil hql
      go_wp2
      go_ret
      exact HF.out
end Go.Proofs.Ytkalmfhebffklaa.L11
