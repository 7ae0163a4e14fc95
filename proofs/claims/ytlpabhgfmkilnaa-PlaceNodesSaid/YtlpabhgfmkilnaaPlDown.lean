/- place.down: the nodes of a tree, one behind the other, with what stands at each. -/
import Derived.Test.YtlpabhgfmkilnaaPlHalf
import Derived.Test.YtlpabhgfmkilnaaPlRest
import Derived.Test.YtlpabhgfmkilnaaPlFact
import Derived.Test.YtlpabhgfmkilnaaTrTop
namespace Go.Proofs.Ytlpabhgfmkilnaa.L14
open Go.ChangeShapes Go.WideShapes Go.ChangeAt Go.RowKit Go.Deep
open Go.Proofs.Ytlpabhgfmkilnaa.L13
open Go.Proofs.Ytlpabhgfmkilnaa.L5 (One)

attribute [local go_sem] Oper.semAt_some

theorem cat_bytes14 (a b : List UInt8) : (⟨a.toArray⟩ : ByteArray) ++ ⟨b.toArray⟩ = ⟨(a ++ b).toArray⟩ := by
  apply ByteArray.ext
  simp
theorem at_len {t : Tr} {x : List UInt8} {u : Tr} (h : t.at x = some u) : x.length ≤ t.deep := by
  induction x generalizing t with
  | nil => simp
  | cons b x ih =>
    cases t with
    | leaf p => cases h
    | node l r =>
      rw [Tr.at] at h
      simp only [List.length_cons, Tr.deep]
      split at h
      · have := ih h; omega
      · split at h
        · have := ih h; omega
        · cases h
/-- A node and what stands there, as values. -/
def encN (s : Nd) : Array Value := #[.string ⟨s.1.toArray⟩, .string ⟨s.2.text.toArray⟩]
def cellsQ (q : List Nd) : List Value := q.flatMap (fun s => [.string ⟨s.1.toArray⟩, .string ⟨s.2.text.toArray⟩])
theorem cellsQ_len (q : List Nd) : (cellsQ q).length = 2 * q.length := by
  induction q with
  | nil => rfl
  | cons s q ih => simp only [cellsQ, List.flatMap_cons, List.length_append, List.length_cons, List.length_nil] at ih ⊢; omega
theorem cellsQ_append (q r : List Nd) : cellsQ (q ++ r) = cellsQ q ++ cellsQ r := by simp [cellsQ]
theorem cellsQ_cons (s : Nd) (q : List Nd) : cellsQ (s :: q) = .string ⟨s.1.toArray⟩ :: .string ⟨s.2.text.toArray⟩ :: cellsQ q := rfl
theorem sizes_len (q : List Nd) : q.length ≤ sizes q := by
  induction q with
  | nil => simp
  | cons s q ih => rw [sizes_cons, List.length_cons]; have := s.2.size_pos; omega
theorem info_spot : (Try.prog.info? 56).map (fun i => (i.zero, i.size, i.bytes)) = some (some (.agg #[.string ⟨#[]⟩, .string ⟨#[]⟩]), 2, 32) := by kernel_rfl
/-- Between two rounds. -/
structure DRel (t : Tr) (s : Nd → Bool) (B : Nat) (J : (Nat → Prop) → List Nd → World → Prop) (k : Nat) (v3 : Value) (wr : World) where
  pre : List Nd
  q : List Nd
  F : Nat → Prop
  hk : k = sizes q
  all : t.down = pre ++ bfs (sizes q) q
  clean : ∀ y ∈ pre, s y = false
  rest : Rest wr B 56 v3 q.length (cellsQ q)
  apart : ∀ g, v3.ownBlock = some g → ¬ F g
  below : ∀ g, F g → g < wr.heap.size
  inv : J F pre wr
  size : B ≤ wr.heap.size
  few : sizes q ≤ 15
theorem down_cons {t : Tr} {pre q : List Nd} {s0 : Nd} (h : t.down = pre ++ bfs (sizes (s0 :: q)) (s0 :: q)) : t.down = (pre ++ [s0]) ++ bfs (sizes (q ++ kids s0)) (q ++ kids s0) := by
  have hk := sizes_kids s0
  have e : sizes (s0 :: q) = sizes (q ++ kids s0) + 1 := by rw [sizes_cons, sizes_append]; omega
  rw [h, e, bfs, List.append_assoc]
  rfl
set_option maxRecDepth 100000 in
set_option maxHeartbeats 8000000 in
theorem down_in (t : Tr) (ho : t.ok) (Bs : Nat) (s : Nd → Bool) (n l : Nat) (J : (Nat → Prop) → List Nd → World → Prop) (F : Nat → Prop) (W : World) (_ : l < W.heap.size) (hJ : Hangs W.heap.size J) (hF : ∀ q, F q → q < W.heap.size)
    (hc : W.cell? ⟨Bs, 0, none⟩ = some (.string ⟨t.text.toArray⟩))
    (hY : ∀ m pre x F W1, pre ++ [x] <+: upto s t.down → J F pre W1 → YieldAt Fence.wide m Try.prog l (encN x) W1 fun e W' => e = .returned (.bool (!s x)) ∧ ∃ F', J F' (pre ++ [x]) W' ∧ (∀ q, F' q → F q ∨ W1.heap.size ≤ q) ∧ Round (fun q => F q ∨ (s x = true ∧ q = l)) F' W1 W')
    (h0 : J F [] W) : CallsIn Fence.wide n Try.prog 30 #[.func (.yield l) #[] #[], .pointer (some ⟨Bs, 0, none⟩)] W fun e W' => (∃ v, e = .returned v) ∧ ∃ F', J F' (upto s t.down) W' := by
  have hR := fun V => right_top t.text V
  rw [readT_text ho] at hR
  rw [show Option.isSome (some t) = true from rfl] at hR
  have HR := Lib.hid hR
  have HY := Lib.hid hY
  have HJ := Lib.hid hJ
  have ht22 := ho.len
  obtain ⟨i0, hi, hz0, hz1, hz2⟩ := info_parts info_spot
  have hbB : ∀ w1, Below W.heap.size W w1 → w1.cell? ⟨Bs, 0, none⟩ = some (.string ⟨t.text.toArray⟩) := fun w1 hb => (hb.cell (p := ⟨Bs, 0, none⟩) (by
    by_cases h : Bs < W.heap.size
    · exact h
    · rw [World.cell?, Array.getElem?_eq_none (by simpa using Nat.le_of_not_lt h)] at hc; cases hc)).trans hc
  have hSt : ∀ w1, Below W.heap.size W w1 → Nonempty (DRel t s W.heap.size J t.size (.slice (some ⟨w1.heap.size, 0, none⟩) 1 1) (w1.alloc (.cells #[.string ⟨#[]⟩, .string ⟨t.text.toArray⟩] 56))) := fun w1 hb => by
    have hs := hb.size
    refine ⟨⟨[], [([], t)], F, by simp [sizes], by rw [Tr.down]; simp [sizes], by simp, ?_, ?_, ?_, ?_, ?_, ?_⟩⟩
    · exact Rest.of_own ⟨by simp [cellsQ], .inr ⟨w1.heap.size, 1, #[.string ⟨#[]⟩, .string ⟨t.text.toArray⟩], rfl, hs, World.alloc_heap_new _ _, Nat.le_refl _, by decide, rfl, rfl⟩⟩
    · intro g hg; cases hg; intro h; have := hF _ h; dsimp only at this; omega
    · intro g hg; have := hF g hg; simp; omega
    · exact hJ F [] W _ h0 (Beside.of_below (hb.trans ((Below.refl _ w1).alloc hs _)))
    · simp; omega
    · have := t.size_procs; have := ho.few; simp [sizes]; omega
  have HSt := Lib.hid hSt
  clear hY hJ hR hSt h0
  refine callsIn_of_wp Try.func30 rfl trivial ?_ rfl
  simp only [Try.ntmps30, List.size_toArray, List.length_cons, List.length_nil, Nat.reduceAdd, Nat.reduceSub, Array.replicate_succ, Array.replicate_zero, List.push_toArray, List.append_toArray, List.nil_append, List.cons_append]
  gi_wp2_with (refine ⟨trivial, (fun h => nomatch h), ?_⟩; gi_at_call 20; refine (callsIn_wide.2 (HR.out _)).mono ?_; rintro e w1 ⟨rfl, b1⟩; have c1 := hbB w1 b1)
  have HS1 := Lib.hid (HSt.out w1 b1)
  clear HSt hbB b1 hc
  gi_loopg [3] t.size (fun k v3 wr => Nonempty (DRel t s W.heap.size J k v3 wr))
  case atStart => exact HS1.out
  case round =>
    clear HS1
    obtain ⟨⟨pre, q, F1, rfl, hall, hcl, hrest, hap, hbl, hinv, hsz, hfew⟩⟩ := hrel
    cases q with
    | nil =>
      obtain ⟨A, c, rfl⟩ := hrest.slice
      have hEnd : Hid (∃ F', J F' (upto s t.down) wr) := by
        rw [bfs_nil, List.append_nil] at hall
        rw [hall, upto_none hcl]
        exact ⟨F1, hinv⟩
      clear hall hcl hrest hap hbl hinv hsz hfew HY HJ hF
      simp only [List.length_nil]
      gi_wp2
      go_end0
      exact ⟨⟨_, rfl⟩, hEnd.out⟩
    | cons s0 q =>
      obtain ⟨g, off, cap, rfl, hBg, hgl, hmc, hcm, hcells⟩ := hrest.cells (by simp)
      have hall' := down_cons hall
      have hmem : s0 ∈ t.down := by rw [hall']; simp
      obtain ⟨x, u⟩ := s0
      have hat := (t.down_mem x u).1 hmem
      have hou := ho.at hat
      have hxl := at_len hat
      have hd7 := ho.deep8
      have hul := hou.len
      have c0 : wr.cell? ⟨g, off, none⟩ = some (.string ⟨x.toArray⟩) := hcells 0 _ rfl
      have c1 : wr.cell? ⟨g, off + 1, none⟩ = some (.string ⟨u.text.toArray⟩) := hcells 1 _ rfl
      obtain ⟨W1, hW1⟩ : ∃ W1, wr.alloc (.cells #[.string ⟨x.toArray⟩, .string ⟨u.text.toArray⟩] 56) = W1 := ⟨_, rfl⟩
      have hz1' : W1.heap.size = wr.heap.size + 1 := by rw [← hW1]; simp
      have hnew : W1.heap[wr.heap.size]? = some (.cells #[.string ⟨x.toArray⟩, .string ⟨u.text.toArray⟩] 56 (0, 0)) := by rw [← hW1]; exact World.alloc_heap_new _ _
      have hold : ∀ k, k < wr.heap.size → W1.heap[k]? = wr.heap[k]? := fun k hk => by rw [← hW1]; exact heap_alloc_old wr _ hk
      have d0 : W1.cell? ⟨wr.heap.size, 0, none⟩ = some (.string ⟨x.toArray⟩) := by rw [cell_of_row _ _ _ _ _ _ hnew]; rfl
      have d1 : W1.cell? ⟨wr.heap.size, 1, none⟩ = some (.string ⟨u.text.toArray⟩) := by rw [cell_of_row _ _ _ _ _ _ hnew]; rfl
      have hb1 : Beside W.heap.size F1 wr W1 := by rw [← hW1]; exact Beside.alloc _ _ _ _
      have hnx := upto_next (s := s) pre (bfs (sizes (q ++ kids (x, u))) (q ++ kids (x, u))) (x, u) hcl
      have hall2 : t.down = pre ++ (x, u) :: bfs (sizes (q ++ kids (x, u))) (q ++ kids (x, u)) := by rw [hall']; simp
      rw [← hall2] at hnx
      have HYy := Lib.hid (fun m => HY.out m pre (x, u) F1 W1 hnx (HJ.out F1 pre wr W1 hinv hb1))
      have hupt : Hid (s (x, u) = true → upto s t.down = pre ++ [(x, u)]) := fun h => by rw [hall2, upto_some pre _ hcl h]
      have hlen0 : ((x, u) :: q).length = q.length + 1 := rfl
      rw [hlen0] at hrest hmc ⊢
      have hq13 : q.length ≤ 14 := by have := sizes_len ((x, u) :: q); rw [hlen0] at this; omega
      -- what a round leaves, handed on
      have HGo : Hid (∀ (W3 : World) (F' : Nat → Prop), s (x, u) = false → J F' (pre ++ [(x, u)]) W3 → Round F1 F' W1 W3 →
          (W3.cell? ⟨wr.heap.size, 0, none⟩ = some (.string ⟨x.toArray⟩) ∧ W3.cell? ⟨wr.heap.size, 1, none⟩ = some (.string ⟨u.text.toArray⟩)) ∧ Rest W3 W.heap.size 56 (.slice (some ⟨g, off, none⟩) (q.length + 1) cap) (q.length + 1) (cellsQ ((x, u) :: q)) ∧ ¬ F' g ∧ W.heap.size ≤ W3.heap.size ∧
          ∀ (v5 : Value) (V : World), Rest V W.heap.size 56 v5 (q ++ kids (x, u)).length (cellsQ (q ++ kids (x, u))) → (∀ b, v5.ownBlock = some b → b = g ∨ W3.heap.size ≤ b) → Beside W.heap.size F' W3 V → Nonempty (DRel t s W.heap.size J (sizes (q ++ kids (x, u))) v5 V)) := by
        intro W3 F' hs hJ3 hr3
        have hnF : ¬ F1 wr.heap.size := fun h => by have := hbl _ h; omega
        have hgF : ¬ F1 g := hap g rfl
        have hkeep : W3.heap[wr.heap.size]? = W1.heap[wr.heap.size]? := hr3.same _ (by omega) hnF
        have hkg : W3.heap[g]? = wr.heap[g]? := (hr3.same g (by omega) hgF).trans (hold g hgl)
        have hg' : ¬ F' g := fun h => (hr3.more g h).elim hgF (fun h => by omega)
        have hsz3 := hr3.size
        refine ⟨⟨(World.cell?_of_block (a := ⟨wr.heap.size, 0, none⟩) hkeep).trans d0, (World.cell?_of_block (a := ⟨wr.heap.size, 1, none⟩) hkeep).trans d1⟩, hrest.same (fun k hk => by cases hk; exact hkg), hg', by omega, fun v5 V hR5 hb5 hV => ?_⟩
        have hk5 := sizes_kids (x, u)
        refine ⟨⟨pre ++ [(x, u)], q ++ kids (x, u), F', rfl, hall', ?_, hR5, ?_, ?_, ?_, ?_, ?_⟩⟩
        · intro y hy
          rcases List.mem_append.1 hy with hy | hy
          · exact hcl y hy
          · rw [List.mem_singleton.1 hy]; exact hs
        · intro b hb h
          rcases hb5 b hb with rfl | h5
          · exact hg' h
          · have := hr3.low b h; omega
        · intro b hb; have := hr3.low b hb; have := hV.size; omega
        · exact HJ.out F' _ W3 V hJ3 hV
        · have := hV.size; omega
        · rw [sizes_cons] at hfew; rw [sizes_append]; omega
      have hszk : Hid (sizes (q ++ kids (x, u)) < sizes ((x, u) :: q)) := by have := sizes_kids (x, u); unfold Hid; rw [sizes_append, sizes_cons]; omega
      clear hrest hap hbl hinv hcells hcl hall hall' hall2 hnx hmem hat hold hb1 hnew HY HJ hF
      have j1 : (0 : Int) < ((q.length + 1 : Nat) : Int) := by omega
      generalize hms : sizes ((x, u) :: q) = ms at *
      generalize hux : u.text = ux at *
      obtain ⟨fn, tmps, assign, body, hy5, hR5⟩ := HYy.out (n - 1)
      unfold encN at hy5
      dsimp only at hy5
      rw [hux] at hy5
      gi_wp2
      refine ⟨(fun h => nomatch h), hR5.mono ?_⟩
      rintro e W3 ⟨rfl, F', hJ3, hm3, hr3⟩
      by_cases hs : s (x, u) = true
      · have hE : Hid (∃ F', J F' (upto s t.down) W3) := ⟨F', by rw [hupt.out hs]; exact hJ3⟩
        rw [hs]
        clear HGo hupt hr3 hm3 hJ3 HYy hszk hy5 hR5
        gi_wp2
        refine bodyPost_ret (results_none rfl _ _ _) rfl ?_
        exact ⟨⟨_, rfl⟩, hE.out⟩
      · have hs' : s (x, u) = false := by simpa using hs
        rw [hs']
        obtain ⟨⟨e0, e1⟩, hR3, hg3, hB3, hFin⟩ := HGo.out W3 F' hs' hJ3 (hr3.go hm3 hs')
        have HFin := Lib.hid hFin
        have HR3 := Lib.hid hR3
        have HM := Lib.hid (And.intro hg3 (And.intro hB3 hszk.out))
        clear HGo hupt hr3 hm3 hJ3 HYy hszk hy5 hR5 hFin hR3 hg3 hs hs'
        cases u with
        | leaf p =>
          have HH := Lib.hid (fun V => halves_leaf p V)
          have hk0 : kids (x, Tr.leaf p) = [] := rfl
          rw [hk0, List.append_nil] at HFin HM
          rw [hux] at HH
          obtain ⟨r1, r2, r3, r4⟩ := HR3.out.rest
          have HN : Hid (∀ v5 : Value, Rest W3 W.heap.size 56 v5 q.length (cellsQ q) → (v5.ownBlock = some g) → Nonempty (DRel t s W.heap.size J (sizes q) v5 W3)) := fun v5 h hb => HFin.out v5 W3 h (fun b h => .inl (by rw [hb] at h; exact (Option.some.inj h).symm)) (Beside.refl _ _ _)
          clear HFin HR3 hux
          generalize hqn : q.length = qn at *
          by_cases hcap : cap = 1
          · subst hcap
            have HE := Lib.hid (HN.out _ (r4 rfl) rfl)
            obtain rfl : qn = 0 := by omega
            clear r1 r2 r3 r4 HN
            gi_wp2_with (refine ⟨trivial, (fun h => nomatch h), ?_⟩; gi_at_call 31; refine (callsIn_wide.2 (HH.out _)).mono ?_; rintro e w4 ⟨rfl, rfl⟩)
            gi_roundg (sizes q)
            case measure => exact HM.out.2.2
            case rel => exact HE.out
          · have HE := Lib.hid (HN.out _ r3 rfl)
            have k1 : (1 : Int) ≤ ((qn + 1 : Nat) : Int) := by omega
            have k2 : ((qn + 1 : Nat) : Int) ≤ (cap : Int) := by omega
            clear r1 r2 r3 r4 HN
            gi_wp2_with (refine ⟨trivial, (fun h => nomatch h), ?_⟩; gi_at_call 31; refine (callsIn_wide.2 (HH.out _)).mono ?_; rintro e w4 ⟨rfl, rfl⟩)
            gi_roundg (sizes q)
            case measure => exact HM.out.2.2
            case rel => exact HE.out
        | node l r =>
          have HH := Lib.hid (fun V => halves_node hou V)
          rw [hux] at HH
          have hk2 : kids (x, Tr.node l r) = [(x ++ [108], l), (x ++ [114], r)] := rfl
          rw [hk2] at HFin HM
          obtain ⟨news, hnews⟩ : ∃ news : List Value, news = [.string ⟨(x ++ [108]).toArray⟩, .string ⟨l.text.toArray⟩, .string ⟨(x ++ [114]).toArray⟩, .string ⟨r.text.toArray⟩] := ⟨_, rfl⟩
          have hcq : cellsQ (q ++ [(x ++ [108], l), (x ++ [114], r)]) = cellsQ q ++ news := by rw [cellsQ_append, hnews]; rfl
          have hlq : (q ++ [(x ++ [108], l), (x ++ [114], r)]).length = q.length + 2 := by simp
          rw [hcq, hlq] at HFin
          have HApp : Hid (∀ V, Below W3.heap.size W3 V → (V.cell? ⟨wr.heap.size, 0, none⟩ = some (.string ⟨x.toArray⟩) ∧ V.cell? ⟨wr.heap.size, 1, none⟩ = some (.string ⟨ux.toArray⟩)) ∧
              Rest (V.alloc (.cells news.toArray 56)) W.heap.size 56 (.slice (some ⟨g, off, none⟩) (q.length + 1) cap) (q.length + 1) (cellsQ ((x, Tr.node l r) :: q)) ∧
              (∀ j z, news[j]? = some z → (V.alloc (.cells news.toArray 56)).cell? ((⟨V.heap.size, 0, none⟩ : Addr).add j) = some z) ∧ W.heap.size ≤ (V.alloc (.cells news.toArray 56)).heap.size ∧
              ∀ v' w', Rest w' W.heap.size 56 v' (q.length + 1 + 2) (cellsQ ((x, Tr.node l r) :: q) ++ news) → (V.alloc (.cells news.toArray 56)).grownBy w' (Value.slice (some ⟨g, off, none⟩) (q.length + 1) cap).ownBlock → (v'.ownBlock = (Value.slice (some ⟨g, off, none⟩) (q.length + 1) cap).ownBlock ∨ ∀ b, v'.ownBlock = some b → (V.alloc (.cells news.toArray 56)).heap.size ≤ b) →
                ∃ g2 off2 cap2, v' = .slice (some ⟨g2, off2, none⟩) (q.length + 1 + 2) cap2 ∧ q.length + 1 + 2 ≤ cap2 ∧ cap2 ≤ maxLen ∧ Nonempty (DRel t s W.heap.size J (sizes (q ++ [(x ++ [108], l), (x ++ [114], r)])) (.slice (some ⟨g2, off2 + 2, none⟩) (q.length + 2) (cap2 - 1)) w')) := by
            intro V hV
            obtain ⟨hg3, hB3, _⟩ := HM.out
            have hVs := hV.size
            have hwrs : wr.heap.size < W3.heap.size := by
              by_cases h : wr.heap.size < W3.heap.size
              · exact h
              · rw [World.cell?, Array.getElem?_eq_none (by simpa using Nat.le_of_not_lt h)] at e0; cases e0
            have hgs : g < W3.heap.size := (HR3.out.lt g rfl).2
            have hRV : Rest (V.alloc (.cells news.toArray 56)) W.heap.size 56 (.slice (some ⟨g, off, none⟩) (q.length + 1) cap) (q.length + 1) (cellsQ ((x, Tr.node l r) :: q)) :=
              HR3.out.same (fun b hb => by cases hb; exact (heap_alloc_old V _ (by show g < _; omega)).trans (hV.block g hgs))
            refine ⟨⟨(hV.cell (p := ⟨wr.heap.size, 0, none⟩) hwrs).trans e0, (hV.cell (p := ⟨wr.heap.size, 1, none⟩) hwrs).trans e1⟩, hRV, fun j z hz => ?_, by simp; omega, fun v' w' hR' hg' hv' => ?_⟩
            · rw [addr_none, cell_of_row _ _ _ _ _ _ (World.alloc_heap_new V (.cells news.toArray 56)), Nat.zero_add]
              simpa using hz
            · obtain ⟨g2, off2, cap2, rfl, hb2, hl2, hm2, hx2, _⟩ := hR'.cells (by omega)
              have hcons : cellsQ ((x, Tr.node l r) :: q) ++ news = .string ⟨x.toArray⟩ :: .string ⟨(Tr.node l r).text.toArray⟩ :: (cellsQ q ++ news) := rfl
              rw [hcons] at hR'
              obtain ⟨r1, r2, r3, _⟩ := Rest.rest (m := q.length + 2) hR'
              refine ⟨g2, off2, cap2, rfl, hm2, hx2, HFin.out _ w' r3 (fun b hb => ?_) ?_⟩
              · cases hb
                rcases hv' with e | e
                · exact .inl (Option.some.inj e)
                · have := e g2 rfl; simp at this; exact .inr (by show _ ≤ g2; omega)
              · refine (Beside.of_below (hV.trans ((Below.refl _ V).alloc hVs _))).trans ⟨hg'.os, hg'.tape, hg'.output, hg'.size, fun b hb hx => hg'.block b hb (fun e => ?_)⟩
                have e' : g = b := (Option.some.inj e).symm
                subst e'
                rcases hx with hx | hx
                · have := (HR3.out.lt g rfl).1; omega
                · exact hg3 hx
          have hone : ∀ z ∈ news, z.oneCell' = true := by rw [hnews]; simp [Value.oneCell']
          have hll : l.text.length ≤ 22 := hou.left.len
          have hrl : r.text.length ≤ 22 := hou.right.len
          have hcat := cat_bytes14
          have hMx := Lib.hid HM.out.2.2
          clear HFin HR3 HM hou hux hk2 hcq hlq
          subst hnews
          generalize l.text = lt at *
          generalize r.text = rt at *
          generalize hxa : x ++ [108] = xa at *
          generalize hxb : x ++ [114] = xb at *
          gi_wp2_with (first
            | (refine ⟨trivial, (fun h => nomatch h), ?_⟩; gi_at_call 31; refine (callsIn_wide.2 (HH.out _)).mono ?_; rintro e w4 ⟨rfl, b4⟩; obtain ⟨⟨f0, f1⟩, hRest, hnw, hbs, hEnd⟩ := HApp.out w4 b4)
            | (gi_at_builtin; refine wpListIn_append_rest rfl _ _ 57 rfl W.heap.size 56 i0 (.agg #[.string ⟨#[]⟩, .string ⟨#[]⟩]) 32 Try.underlying57 hi hz0 hz1 hz2 rfl _ (q.length + 1) _ rfl hRest ⟨w4.heap.size, 0, none⟩ 2 2 _ rfl rfl hnw hone (by unfold maxLen; omega) (by omega) hbs ?_; intro v' w5 hR' hg' hv'; obtain ⟨g2, off2, cap2, rfl, hm2, hx2, hD⟩ := hEnd v' w5 hR' hg' hv'; have HD := Lib.hid hD; clear hD hR' hg' hv' hEnd hRest hnw hbs; have k1 : (1 : Int) ≤ ((q.length + 1 + 2 : Nat) : Int) := (by omega); have k2 : ((q.length + 1 + 2 : Nat) : Int) ≤ (cap2 : Int) := (by omega); have k3 : ¬ cap2 = 1 := (by omega)))
          gi_roundg (sizes (q ++ [(xa, l), (xb, r)]))
          case measure => exact hMx.out
          case rel => exact HD.out
/-- What a function value of down's tells. -/
theorem down_upto (t : Tr) (ho : t.ok) (Bs : Nat) (w : World) (hc : w.cell? ⟨Bs, 0, none⟩ = some (.string ⟨t.text.toArray⟩)) (hBs : Bs < w.heap.size) :
    SeqUpto Try.prog 30 #[.pointer (some ⟨Bs, 0, none⟩)] encN (fun q => q = Bs) t.down w :=
  fun s n l J F W hW hl hJ hF hY h0 => down_in t ho Bs s n l J F W hl hJ (fun q hq => (hF q hq).1) ((hW.cell (p := ⟨Bs, 0, none⟩) hBs).trans hc) hY h0
set_option maxRecDepth 100000 in
set_option maxHeartbeats 2000000 in
theorem down_none_upto (x : List UInt8) (hx : readT x = none) (Bs : Nat) (w : World) (hc : w.cell? ⟨Bs, 0, none⟩ = some (.string ⟨x.toArray⟩)) (hBs : Bs < w.heap.size) :
    SeqUpto Try.prog 30 #[.pointer (some ⟨Bs, 0, none⟩)] encN (fun q => q = Bs) [] w := by
  intro s n l J F W hW hl hJ hF _ h0
  have hR := fun V => right_top x V
  rw [hx] at hR
  rw [show Option.isSome (none : Option Tr) = false from rfl] at hR
  have HR := Lib.hid hR
  have hc1 := (hW.cell (p := ⟨Bs, 0, none⟩) hBs).trans hc
  have HE : Hid (∀ w1, Below W.heap.size W w1 → ∃ F', J F' (upto s []) w1) := fun w1 b1 => ⟨F, hJ F [] W w1 h0 (.of_below b1)⟩
  clear hR hx hJ hF h0 hc
  refine callsIn_of_wp Try.func30 rfl trivial ?_ rfl
  simp only [Try.ntmps30, List.size_toArray, List.length_cons, List.length_nil, Nat.reduceAdd, Nat.reduceSub, Array.replicate_succ, Array.replicate_zero, List.push_toArray, List.append_toArray, List.nil_append, List.cons_append]
  gi_wp2_with (refine ⟨trivial, (fun h => nomatch h), ?_⟩; gi_at_call 20; refine (callsIn_wide.2 (HR.out _)).mono ?_; rintro e w1 ⟨rfl, b1⟩; have H1 := Lib.hid (HE.out w1 b1); clear b1)
  refine bodyPost_ret (results_none rfl _ _ _) rfl ?_
  exact ⟨⟨_, rfl⟩, H1.out⟩
/-- All nodes of a text, each with what stands there. -/
def downX (x : List UInt8) : List Nd := match readT x with | none => [] | some t => t.down
theorem down_all (x : List UInt8) (Bs : Nat) (w : World) (hc : w.cell? ⟨Bs, 0, none⟩ = some (.string ⟨x.toArray⟩)) (hBs : Bs < w.heap.size) :
    SeqUpto Try.prog 30 #[.pointer (some ⟨Bs, 0, none⟩)] encN (fun q => q = Bs) (downX x) w := by
  unfold downX
  cases hx : readT x with
  | none => exact down_none_upto x hx Bs w hc hBs
  | some t =>
    obtain ⟨e, ho⟩ := readT_some hx
    subst e
    exact down_upto t ho Bs w hc hBs
set_option maxHeartbeats 1000000 in
theorem down_calls (x : List UInt8) (w : World) : Calls Try.prog 21 #[.string ⟨x.toArray⟩] w fun e w' => e = .returned (.func (.func 30) #[] #[.pointer (some ⟨w.heap.size, 0, none⟩)]) ∧ w.alloc (.cells #[.string ⟨x.toArray⟩] 23) = w' := by
  go_enter Try.func21, Try.ntmps21
  go_wp2
  go_ret
  exact ⟨rfl, rfl⟩
end Go.Proofs.Ytlpabhgfmkilnaa.L14
