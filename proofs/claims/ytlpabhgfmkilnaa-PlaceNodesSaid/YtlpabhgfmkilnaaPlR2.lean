/- The document's Nodes. -/
import Derived.Test.YtlpabhgfmkilnaaPlR1
namespace Go.Proofs.Ytlpabhgfmkilnaa.L14
open Go.ChangeShapes Go.WideShapes Go.ChangeAt Go.RowKit Go.Deep
open Go.Proofs.Ytlpabhgfmkilnaa.L13
open Go.Proofs.Ytlpabhgfmkilnaa.L5 (One)

theorem op_append {P : Program} {o : Oper} {a : Act} {w w' : World} {K : Act → World → Prop} {Q : Exit → Act → World → Prop} {v' : Value} (s x : Operand) (t : TypeId)
    (ho : o.op = .call { callee := .builtin .append, args := #[s, x], argTypes := #[t, t] }) (v u : Value) (hs : a.eval s = v) (hx : a.eval x = u) (hr : (Builtin.append_ #[t, t] o.type #[v, u]).run P w = .ok v' w') (hK : K (a.put o.dst v') w') : Oper.wp P o a w K Q := by
  unfold Oper.wp execOp
  simp only [ho, resolve, invoke, builtin, Sem.run_bind, Sem.run_pure, Result.andThen_ok, List.map_toArray, List.map_cons, List.map_nil, hs, hx, hr]
  exact hK
theorem TxA.head {w : World} {v : Value} {zs : List (List UInt8)} (h : TxA w v zs) (hne : 0 < zs.length) : ∃ ad c, v = .slice (some ad) zs.length c ∧ ∀ (j : Nat) (x : List UInt8), zs[j]? = some x → ∀ V, Below w.heap.size w V → V.cell? (ad.add j) = some (.string ⟨x.toArray⟩) := by
  obtain ⟨A, c, rfl, hr⟩ := h
  obtain ⟨ad, rfl, _⟩ := hr 0 _ (List.getElem?_eq_getElem hne)
  refine ⟨ad, c, rfl, fun j x hx V hV => ?_⟩
  obtain ⟨ad', e, h1, h2⟩ := hr j x hx
  cases e
  exact (hV.cell (p := ad.add j) (by rw [addr_blk]; exact h1)).trans h2
theorem TxA.nth {w : World} {A : Option Addr} {n c : Nat} {zs : List (List UInt8)} (h : TxA w (.slice A n c) zs) : ∀ (j : Nat) (x : List UInt8), zs[j]? = some x → ∃ ad : Addr, A = some ad ∧ ∀ V, Below w.heap.size w V → V.cell? (ad.add j) = some (.string ⟨x.toArray⟩) := by
  obtain ⟨A', c', e, hr⟩ := h
  cases e
  refine fun j x hx => ?_
  obtain ⟨ad, e, h1, h2⟩ := hr j x hx
  exact ⟨ad, e, fun V hb => (hb.cell (p := ad.add j) (by rw [addr_blk]; exact h1)).trans h2⟩
structure RnRel (t : Tr) (w : World) (k : Nat) (v3 v4 : Value) (wr : World) where
  pre : List Nd
  q : List Nd
  hk : k = sizes q
  all : t.down = pre ++ bfs (sizes q) q
  few : (pre ++ q).length ≤ 15
  mem : ∀ s ∈ pre ++ q, t.at s.1 = some s.2
  row : wr.ownsRow w.heap.size 9 1 v3 (pre ++ q).length (strV ((pre ++ q).map (fun s => s.1)))
  v4e : v4 = .int .i64 pre.length
  below : Below w.heap.size w wr
theorem bfs_has : ∀ (f : Nat) (q : List Nd), sizes q ≤ f → ∀ s ∈ q, s ∈ bfs f q := by
  intro f
  induction f with
  | zero => intro q h s hs; rw [sizes_zero (by omega : sizes q = 0)] at hs; cases hs
  | succ f ih =>
    intro q h s hs
    cases q with
    | nil => cases hs
    | cons a q =>
      rw [bfs]
      rw [sizes_cons] at h
      have := sizes_kids a
      rcases List.mem_cons.1 hs with rfl | hs
      · simp
      · exact List.mem_cons_of_mem _ (ih (q ++ kids a) (by rw [sizes_append]; omega) s (List.mem_append_left _ hs))
set_option maxRecDepth 100000 in
set_option maxHeartbeats 16000000 in
theorem rnodes_calls (x : List UInt8) (hx : x.length ≤ 90) (w : World) : Calls Try.prog 9 #[.string ⟨x.toArray⟩] w (TextsOut w (nodesX x)) := by
  obtain ⟨i0, hi, hz0, hz1, hz2⟩ := info_parts info_str
  have hR := rright_calls x (by omega) w
  cases hr : readT x with
  | none =>
    rw [hr, show Option.isSome (none : Option Tr) = false from rfl] at hR
    have hN : nodesX x = [] := by unfold nodesX downX; rw [hr]; rfl
    rw [hN]
    clear hr hN
    go_enter Try.func9, Try.ntmps9
    go_wp2_with (go_at_call 22; refine hR.mono ?_; rintro e w1 ⟨rfl, b1⟩; have HB := Lib.hid b1; clear b1)
    go_ret
    exact ⟨_, rfl, World.ownsRow_nil _ _ _ _, HB.out⟩
  | some t =>
    rw [hr, show Option.isSome (some t) = true from rfl] at hR
    obtain ⟨rfl, ho⟩ := readT_some hr
    have hN : nodesX t.text = t.down.map (fun s => s.1) := by unfold nodesX; rw [downX_text ho]
    rw [hN]
    have HA := Lib.hid (fun y u (hu : t.at y = some u) (hy : y.length ≤ 90) V => show Calls Try.prog 6 #[.string ⟨t.text.toArray⟩, .string ⟨y.toArray⟩] V (Str2 V (u.text, 0)) from by have := rat_calls t.text y hx hy V; unfold atX at this; rw [readT_text ho] at this; dsimp only at this; rw [hu] at this; exact this)
    have HSt : Hid (∀ V, Below w.heap.size w V → Nonempty (RnRel t w t.size (.slice (some ⟨V.heap.size, 0, none⟩) 1 1) (.int .i64 0) (V.alloc (.cells #[.string ⟨#[]⟩] 9)))) := fun V hV =>
      ⟨⟨[], [([], t)], by simp [sizes], by rw [Tr.down]; simp [sizes], by simp, by intro s hs; simp only [List.nil_append, List.mem_singleton] at hs; subst hs; exact t.at_nil,
        ⟨rfl, .inr ⟨V.heap.size, 1, #[.string ⟨#[]⟩], rfl, hV.size, World.alloc_heap_new _ _, Nat.le_refl _, by decide, rfl, rfl⟩⟩, rfl, hV.alloc hV.size _⟩⟩
    have HT := Lib.hid ho
    have hdn : Hid (t.down.length ≤ 15) := by unfold Hid; rw [t.down_len]; have := t.size_procs; have := ho.few; omega
    clear hr hx ho hN
    generalize htx : t.text = tx at *
    clear htx
    go_enter Try.func9, Try.ntmps9
    go_wp2_with (go_at_call 22; refine hR.mono ?_; rintro e w1 ⟨rfl, b1⟩; have HS1 := Lib.hid (HSt.out w1 b1); clear b1)
    clear HSt hR
    go_loopg [3, 4] t.size (fun k v3 v4 wr => Nonempty (RnRel t w k v3 v4 wr))
    case atStart => exact HS1.out
    case round =>
      clear HS1
      obtain ⟨⟨pre, q, rfl, hall, hfew, hmem, hrow, rfl, hb⟩⟩ := hrel
      have HBr := Lib.hid hb
      cases q with
      | nil =>
        rw [bfs_nil, List.append_nil] at hall
        rw [List.append_nil] at hrow
        have HE : Hid (∀ e, e = Ending.returned u3 → TextsOut w (t.down.map (fun s => s.1)) e wr) := fun e he => ⟨_, he, by rw [hall, List.length_map]; exact hrow, HBr.out⟩
        obtain ⟨A3, c3, rfl⟩ := L5.own_slice hrow
        have j1 : ¬ (pre.length : Int) < (pre.length : Int) := by omega
        clear hall hfew hmem hrow hb hdn HA HT
        go_wp2
        go_ret
        exact HE.out _ rfl
      | cons s0 q =>
        obtain ⟨yx, u⟩ := s0
        have hat := hmem (yx, u) (by simp)
        have hou := HT.out.at hat
        have hyl : yx.length ≤ 7 := by have := at_len hat; have := HT.out.deep8; dsimp only at *; omega
        have hlen : (pre ++ (yx, u) :: q).length = pre.length + q.length + 1 := by simp; omega
        have hall' : t.down = (pre ++ [(yx, u)]) ++ bfs (sizes (q ++ kids (yx, u))) (q ++ kids (yx, u)) := down_cons hall
        have hmap : ((pre ++ (yx, u) :: q).map (fun s => s.1)).length = (pre ++ (yx, u) :: q).length := by simp
        have hTx : TxA wr u3 ((pre ++ (yx, u) :: q).map (fun s => s.1)) := TxA.of_own (by rw [hmap]; exact hrow)
        obtain ⟨ad3, c3, rfl, hc3⟩ := hTx.head (by simp; omega)
        have hci := hc3 pre.length yx (by simp)
        have HCi := Lib.hid hci
        have hcw := hci wr (Below.refl _ _)
        rw [hmap] at hrow ⊢
        have hAt := HA.out yx u hat (by omega) wr
        have hks := sizes_kids (yx, u)
        have hms : Hid (sizes (q ++ kids (yx, u)) < sizes ((yx, u) :: q)) := by unfold Hid; rw [sizes_append, sizes_cons]; omega
        have hkm : ∀ s ∈ kids (yx, u), t.at s.1 = some s.2 := fun s hs => by
          have h1 : s ∈ t.down := by rw [hall']; exact List.mem_append_right _ (bfs_has _ _ (Nat.le_refl _) s (List.mem_append_right _ hs))
          exact (t.down_mem s.1 s.2).1 h1
        have hf15 : (pre ++ [(yx, u)] ++ (q ++ kids (yx, u))).length ≤ 15 := by
          have h1 : (pre ++ [(yx, u)] ++ (q ++ kids (yx, u))).length ≤ t.down.length := by
            have e1 := congrArg List.length hall'
            have : (q ++ kids (yx, u)).length ≤ (bfs (sizes (q ++ kids (yx, u))) (q ++ kids (yx, u))).length := by
              rw [(bfs_perm _ _ (Nat.le_refl _)).length_eq, List.length_flatMap]
              refine Nat.le_trans (sizes_len _) (Nat.le_of_eq ?_)
              simp [sizes, dfs_len]
            simp only [List.length_append] at e1 this ⊢
            omega
          exact Nat.le_trans h1 hdn.out
        have HMem := Lib.hid (And.intro hmem hkm)
        have HAll := Lib.hid hall'
        have HF := Lib.hid hf15
        have j1 : (pre.length : Int) < ((pre ++ (yx, u) :: q).length : Int) := by omega
        have j2 : (0 : Int) ≤ (pre.length : Int) := by omega
        have jb : (pre.length : Int) ≤ 15 := by omega
        have hl2 := hou.len
        have Hlen := Lib.hid hlen
        unfold Str2 at hAt
        dsimp only at hAt
        cases u with
        | leaf p =>
          have HR : Hid (∀ V, Below wr.heap.size wr V → Nonempty (RnRel t w (sizes q) (.slice (some ad3) (pre ++ (yx, .leaf p) :: q).length c3) (.int .i64 ((pre.length + 1 : Nat) : Int)) V)) := fun V hV => by
            have e : (pre ++ [(yx, Tr.leaf p)]) ++ q = pre ++ (yx, .leaf p) :: q := by simp
            refine ⟨⟨pre ++ [(yx, .leaf p)], q, rfl, ?_, by rw [e]; exact hfew, by rw [e]; exact HMem.out.1, by rw [e]; exact own_later hrow hV, by simp, HBr.out.trans (hV.mono HBr.out.size)⟩⟩
            have := HAll.out
            rwa [show kids (yx, Tr.leaf p) = [] from rfl, List.append_nil] at this
          have hms' : Hid (sizes q < sizes ((yx, Tr.leaf p) :: q)) := by have := hms.out; rwa [show kids (yx, Tr.leaf p) = [] from rfl, List.append_nil] at this
          have hl1 : (⟨(Tr.leaf p).text.toArray⟩ : ByteArray).size = 1 := rfl
          clear hall hfew hmem hrow hb hat hou hlen hall' hmap hTx hc3 hks hkm hf15 hms HMem HAll HF HCi HA hl2
          generalize sizes ((yx, Tr.leaf p) :: q) = gk0 at *
          generalize (Tr.leaf p).text = lx at *
          generalize (pre ++ (yx, Tr.leaf p) :: q).length = nn at *
          go_wp2_with fail
          refine hAt.mono ?_
          rintro e w2 ⟨rfl, b2⟩
          have HRb := Lib.hid (HR.out w2 b2)
          clear b2 hAt HR hci hcw
          go_wp2
          go_roundg (sizes q)
          case measure => exact hms'.out
          case rel => exact HRb.out
        | node l r =>
          have hk2 : kids (yx, Tr.node l r) = [(yx ++ [108], l), (yx ++ [114], r)] := rfl
          rw [hk2] at hms HMem HAll HF
          have HApp : Hid (∀ w5, Below wr.heap.size wr w5 → w5.cell? (ad3.add pre.length) = some (.string ⟨yx.toArray⟩) ∧ ∃ A4 c4 w7, (Builtin.append_ #[30, 30] 30 #[.slice (some ad3) (pre ++ (yx, Tr.node l r) :: q).length c3, .slice (some ⟨w5.heap.size, 0, none⟩) 2 2]).run Try.prog (w5.alloc (.cells #[.string ⟨(yx ++ [108]).toArray⟩, .string ⟨(yx ++ [114]).toArray⟩] 9)).drew = .ok (.slice A4 ((pre ++ (yx, Tr.node l r) :: q).length + 2) c4) w7 ∧
              Nonempty (RnRel t w (sizes (q ++ [(yx ++ [108], l), (yx ++ [114], r)])) (.slice A4 ((pre ++ (yx, Tr.node l r) :: q).length + 2) c4) (.int .i64 ((pre.length + 1 : Nat) : Int)) w7)) := by
            intro w5 b5
            have hs5 := b5.size
            have hbs := HBr.out.size
            have hFo := HF.out
            have ba : Below wr.heap.size wr (w5.alloc (.cells #[.string ⟨(yx ++ [108]).toArray⟩, .string ⟨(yx ++ [114]).toArray⟩] 9)).drew := (b5.trans ((Below.refl _ w5).alloc hs5 _)).drew
            obtain ⟨v', w7, hr, h2, h3, h4, h5⟩ := run_append_own_at (P := Try.prog) (w5.alloc (.cells #[.string ⟨(yx ++ [108]).toArray⟩, .string ⟨(yx ++ [114]).toArray⟩] 9)).drew w.heap.size 30 30 9 i0 (.string ⟨#[]⟩) 1 16 Try.underlying30 hi hz0 hz1 hz2 rfl (by decide) _ (pre ++ (yx, Tr.node l r) :: q).length _ (own_later hrow ba) ⟨w5.heap.size, 0, none⟩ 2 2 [.string ⟨(yx ++ [108]).toArray⟩, .string ⟨(yx ++ [114]).toArray⟩] rfl
              (fun j z hz => by
                rw [addr_none, Nat.zero_add]
                show (w5.alloc _).cell? _ = _
                rw [cell_of_row _ _ _ _ _ _ (World.alloc_heap_new w5 _)]
                simpa using hz)
              (by simp [Value.oneCell']) (by unfold maxLen; omega) (by omega) (by have := ba.size; omega)
            obtain ⟨A4, c4, rfl⟩ := L5.own_slice h2
            have e : (pre ++ [(yx, Tr.node l r)]) ++ (q ++ [(yx ++ [108], l), (yx ++ [114], r)]) = (pre ++ (yx, Tr.node l r) :: q) ++ [(yx ++ [108], l), (yx ++ [114], r)] := by simp
            refine ⟨(b5.cell (p := ad3.add pre.length) (World.block_lt_of_cell? _ _ (HCi.out wr (Below.refl _ _)))).trans (HCi.out wr (Below.refl _ _)), A4, c4, w7, hr, ⟨⟨pre ++ [(yx, .node l r)], q ++ [(yx ++ [108], l), (yx ++ [114], r)], rfl, HAll.out, hFo, ?_, ?_, by simp, ?_⟩⟩⟩
            · rw [e]
              intro s hs
              rcases List.mem_append.1 hs with hs | hs
              · exact HMem.out.1 s hs
              · exact HMem.out.2 s hs
            · have e2 : ((pre ++ (yx, Tr.node l r) :: q) ++ [(yx ++ [108], l), (yx ++ [114], r)]).length = (pre ++ (yx, Tr.node l r) :: q).length + 2 := by simp; omega
              rw [e, e2, List.map_append, strV_append]
              exact h2
            · exact HBr.out.grown (L5.grow_trans ⟨ba.os, ba.tape, ba.output, ba.size, fun k hk _ => ba.block k hk⟩ h3) hbs (fun j hj => (hrow.lt j hj).1)
          have hcat := cat_bytes14
          have hnl : 1 < (Tr.node l r).text.length := by simp [Tr.text]; omega
          have j3 : (1 : Int) < ((Tr.node l r).text.length : Int) := by omega
          have hszu : (⟨(Tr.node l r).text.toArray⟩ : ByteArray).size = (Tr.node l r).text.length := rfl
          have mixed : Try.prog.follows Departure.mixedOrders = true := by kernel_rfl
          clear hall hfew hmem hrow hb hat hou hlen hall' hmap hTx hc3 hks hkm hf15 HMem HAll HF HCi HA hk2 hnl
          generalize sizes ((yx, Tr.node l r) :: q) = gk0 at *
          generalize (Tr.node l r).text = lx at *
          generalize (pre ++ (yx, Tr.node l r) :: q).length = nn at *
          go_wp2_with fail
          refine hAt.mono ?_
          rintro e w2 ⟨rfl, b2⟩
          obtain ⟨hc2, A4, c4, w7, hap, HE⟩ := HApp.out w2 b2
          clear b2 hAt HApp hci hcw
          go_wp2
          refine wp_region_any (by kernel_rfl) ?_
          change wpAny _ _ _ _ _ _ _ (World.drew _)
          refine wpAny_take (i := 0) (v := ?_) rfl (by kernel_rfl) (by kernel_rfl) (by kernel_rfl) (fun _ _ _ h => h) (Or.inl ⟨by rfl, ?_⟩) ?_
          rotate_left 1
          · (intro w; go_simp; try with_reducible rfl)
          try simp only [List.getElem_toArray, List.getElem_cons_zero, Act.put, List.setIfInBounds_toArray, List.set_cons_zero, List.set_cons_succ]
          refine wpAny_take (i := 1) (v := ?_) rfl (by kernel_rfl) (by kernel_rfl) (by kernel_rfl) (fun _ _ _ h => h) (Or.inl ⟨by rfl, ?_⟩) ?_
          rotate_left 1
          · (intro w; go_simp; try with_reducible rfl)
          try simp only [List.getElem_toArray, List.getElem_cons_zero, List.getElem_cons_succ, Act.put, List.setIfInBounds_toArray, List.set_cons_zero, List.set_cons_succ]
          refine wpAny_take (i := 2) (v := ?_) rfl (by kernel_rfl) (by kernel_rfl) (by kernel_rfl) (fun _ _ _ h => h) (Or.inl ⟨by rfl, ?_⟩) ?_
          rotate_left 1
          · (intro w; go_simp; try with_reducible rfl)
          try simp only [List.getElem_toArray, List.getElem_cons_zero, List.getElem_cons_succ, Act.put, List.setIfInBounds_toArray, List.set_cons_zero, List.set_cons_succ]
          refine wpAny_take (i := 6) (v := ?_) rfl (by kernel_rfl) (by kernel_rfl) (by kernel_rfl) (fun _ _ _ h => h) (Or.inl ⟨by rfl, ?_⟩) ?_
          rotate_left 1
          · (intro w; go_simp; try with_reducible rfl)
          try simp only [List.getElem_toArray, List.getElem_cons_zero, List.getElem_cons_succ, Act.put, List.setIfInBounds_toArray, List.set_cons_zero, List.set_cons_succ]
          refine wpAny_take (i := 7) (v := ?_) rfl (by kernel_rfl) (by kernel_rfl) (by kernel_rfl) (fun _ _ _ h => h) (Or.inl ⟨by rfl, ?_⟩) ?_
          rotate_left 1
          · (intro w; go_simp; try with_reducible rfl)
          try simp only [List.getElem_toArray, List.getElem_cons_zero, List.getElem_cons_succ, Act.put, List.setIfInBounds_toArray, List.set_cons_zero, List.set_cons_succ]
          refine wpAny_ready (rs := [3, 8]) (by kernel_rfl) (by simp) ?_
          refine AllReady.cons rfl (fun K hK => ?_) ?_
          · go_simp
            refine hK _ _ ?_
            clear hK K
            try simp only [List.getElem_toArray, List.getElem_cons_zero, List.getElem_cons_succ, Act.put, List.setIfInBounds_toArray, List.set_cons_zero, List.set_cons_succ]
            refine wpAny_ready (rs := [4, 8]) (by kernel_rfl) (by simp) ?_
            refine AllReady.cons rfl (fun K hK => ?_) ?_
            · go_simp
              refine hK _ _ ?_
              clear hK K
              try simp only [List.getElem_toArray, List.getElem_cons_zero, List.getElem_cons_succ, Act.put, List.setIfInBounds_toArray, List.set_cons_zero, List.set_cons_succ]
              refine wpAny_take (i := 5) (v := ?_) rfl (by kernel_rfl) (by kernel_rfl) (by kernel_rfl) (fun _ _ _ h => h) (Or.inl ⟨by rfl, ?_⟩) ?_
              rotate_left 1
              · (intro w; (go_simp; try rw [if_neg (by (try simp only [List.length_cons, List.length_append, List.length_nil]); omega)]); try with_reducible rfl)
              try simp only [List.getElem_toArray, List.getElem_cons_zero, List.getElem_cons_succ, Act.put, List.setIfInBounds_toArray, List.set_cons_zero, List.set_cons_succ]
              refine wpAny_ready (rs := [8]) (by kernel_rfl) (by simp) ?_
              refine AllReady.cons rfl (fun K hK => ?_) ?_
              · go_simp
                refine hK _ _ ?_
                clear hK K
                try simp only [List.getElem_toArray, List.getElem_cons_zero, List.getElem_cons_succ, Act.put, List.setIfInBounds_toArray, List.set_cons_zero, List.set_cons_succ]
                refine wpAny_ready (rs := [9]) (by kernel_rfl) (by simp) ?_
                refine AllReady.cons rfl (fun K hK => ?_) ?_
                · go_simp
                  refine hK _ _ ?_
                  clear hK K
                  try simp only [List.getElem_toArray, List.getElem_cons_zero, List.getElem_cons_succ, Act.put, List.setIfInBounds_toArray, List.set_cons_zero, List.set_cons_succ]
                  refine wpAny_take (i := 10) (v := ?_) rfl (by kernel_rfl) (by kernel_rfl) (by kernel_rfl) (fun _ _ _ h => h) (Or.inl ⟨by rfl, ?_⟩) ?_
                  rotate_left 1
                  · (intro w; (go_simp; try rw [if_neg (by (try simp only [List.length_cons, List.length_append, List.length_nil]); omega)]); try with_reducible rfl)
                  try simp only [List.getElem_toArray, List.getElem_cons_zero, List.getElem_cons_succ, Act.put, List.setIfInBounds_toArray, List.set_cons_zero, List.set_cons_succ]
                  refine wpAny_ready (rs := [11]) (by kernel_rfl) (by simp) ?_
                  refine AllReady.cons rfl (fun K hK => ?_) ?_
                  · go_simp
                    refine hK _ _ ?_
                    clear hK K
                    try simp only [List.getElem_toArray, List.getElem_cons_zero, List.getElem_cons_succ, Act.put, List.setIfInBounds_toArray, List.set_cons_zero, List.set_cons_succ]
                    refine wpAny_ready (rs := [12]) (by kernel_rfl) (by simp) ?_
                    refine AllReady.cons rfl (fun K hK => ?_) ?_
                    · rw [if_pos (by rfl)]
                      refine op_append (.tmp 29) (.tmp 40) 30 rfl _ _ rfl rfl hap ?_
                      refine hK _ _ ?_
                      clear hK K
                      try simp only [List.getElem_toArray, List.getElem_cons_zero, List.getElem_cons_succ, Act.put, List.setIfInBounds_toArray, List.set_cons_zero, List.set_cons_succ]
                      refine wpAny_take (i := 13) (v := ?_) rfl (by kernel_rfl) (by kernel_rfl) (by kernel_rfl) (fun _ _ _ h => h) (Or.inl ⟨by rfl, ?_⟩) ?_
                      rotate_left 1
                      · (intro w; go_simp; try with_reducible rfl)
                      try simp only [List.getElem_toArray, List.getElem_cons_zero, List.getElem_cons_succ, Act.put, List.setIfInBounds_toArray, List.set_cons_zero, List.set_cons_succ]
                      refine wpAny_done (by kernel_rfl) ?_ _
                      go_wp2
                      go_roundg (sizes (q ++ [(yx ++ [108], l), (yx ++ [114], r)]))
                      case measure => exact hms.out
                      case rel => exact HE
                    exact AllReady.nil
                  exact AllReady.nil
                exact AllReady.nil
              exact AllReady.nil
            refine AllReady.cons rfl (fun K hK => ?_) ?_
            · go_simp
              refine hK _ _ ?_
              clear hK K
              try simp only [List.getElem_toArray, List.getElem_cons_zero, List.getElem_cons_succ, Act.put, List.setIfInBounds_toArray, List.set_cons_zero, List.set_cons_succ]
              refine wpAny_ready (rs := [4, 9]) (by kernel_rfl) (by simp) ?_
              refine AllReady.cons rfl (fun K hK => ?_) ?_
              · go_simp
                refine hK _ _ ?_
                clear hK K
                try simp only [List.getElem_toArray, List.getElem_cons_zero, List.getElem_cons_succ, Act.put, List.setIfInBounds_toArray, List.set_cons_zero, List.set_cons_succ]
                refine wpAny_take (i := 5) (v := ?_) rfl (by kernel_rfl) (by kernel_rfl) (by kernel_rfl) (fun _ _ _ h => h) (Or.inl ⟨by rfl, ?_⟩) ?_
                rotate_left 1
                · (intro w; (go_simp; try rw [if_neg (by (try simp only [List.length_cons, List.length_append, List.length_nil]); omega)]); try with_reducible rfl)
                try simp only [List.getElem_toArray, List.getElem_cons_zero, List.getElem_cons_succ, Act.put, List.setIfInBounds_toArray, List.set_cons_zero, List.set_cons_succ]
                refine wpAny_ready (rs := [9]) (by kernel_rfl) (by simp) ?_
                refine AllReady.cons rfl (fun K hK => ?_) ?_
                · go_simp
                  refine hK _ _ ?_
                  clear hK K
                  try simp only [List.getElem_toArray, List.getElem_cons_zero, List.getElem_cons_succ, Act.put, List.setIfInBounds_toArray, List.set_cons_zero, List.set_cons_succ]
                  refine wpAny_take (i := 10) (v := ?_) rfl (by kernel_rfl) (by kernel_rfl) (by kernel_rfl) (fun _ _ _ h => h) (Or.inl ⟨by rfl, ?_⟩) ?_
                  rotate_left 1
                  · (intro w; (go_simp; try rw [if_neg (by (try simp only [List.length_cons, List.length_append, List.length_nil]); omega)]); try with_reducible rfl)
                  try simp only [List.getElem_toArray, List.getElem_cons_zero, List.getElem_cons_succ, Act.put, List.setIfInBounds_toArray, List.set_cons_zero, List.set_cons_succ]
                  refine wpAny_ready (rs := [11]) (by kernel_rfl) (by simp) ?_
                  refine AllReady.cons rfl (fun K hK => ?_) ?_
                  · go_simp
                    refine hK _ _ ?_
                    clear hK K
                    try simp only [List.getElem_toArray, List.getElem_cons_zero, List.getElem_cons_succ, Act.put, List.setIfInBounds_toArray, List.set_cons_zero, List.set_cons_succ]
                    refine wpAny_ready (rs := [12]) (by kernel_rfl) (by simp) ?_
                    refine AllReady.cons rfl (fun K hK => ?_) ?_
                    · rw [if_pos (by rfl)]
                      refine op_append (.tmp 29) (.tmp 40) 30 rfl _ _ rfl rfl hap ?_
                      refine hK _ _ ?_
                      clear hK K
                      try simp only [List.getElem_toArray, List.getElem_cons_zero, List.getElem_cons_succ, Act.put, List.setIfInBounds_toArray, List.set_cons_zero, List.set_cons_succ]
                      refine wpAny_take (i := 13) (v := ?_) rfl (by kernel_rfl) (by kernel_rfl) (by kernel_rfl) (fun _ _ _ h => h) (Or.inl ⟨by rfl, ?_⟩) ?_
                      rotate_left 1
                      · (intro w; go_simp; try with_reducible rfl)
                      try simp only [List.getElem_toArray, List.getElem_cons_zero, List.getElem_cons_succ, Act.put, List.setIfInBounds_toArray, List.set_cons_zero, List.set_cons_succ]
                      refine wpAny_done (by kernel_rfl) ?_ _
                      go_wp2
                      go_roundg (sizes (q ++ [(yx ++ [108], l), (yx ++ [114], r)]))
                      case measure => exact hms.out
                      case rel => exact HE
                    exact AllReady.nil
                  exact AllReady.nil
                exact AllReady.nil
              refine AllReady.cons rfl (fun K hK => ?_) ?_
              · go_simp
                refine hK _ _ ?_
                clear hK K
                try simp only [List.getElem_toArray, List.getElem_cons_zero, List.getElem_cons_succ, Act.put, List.setIfInBounds_toArray, List.set_cons_zero, List.set_cons_succ]
                refine wpAny_take (i := 10) (v := ?_) rfl (by kernel_rfl) (by kernel_rfl) (by kernel_rfl) (fun _ _ _ h => h) (Or.inl ⟨by rfl, ?_⟩) ?_
                rotate_left 1
                · (intro w; (go_simp; try rw [if_neg (by (try simp only [List.length_cons, List.length_append, List.length_nil]); omega)]); try with_reducible rfl)
                try simp only [List.getElem_toArray, List.getElem_cons_zero, List.getElem_cons_succ, Act.put, List.setIfInBounds_toArray, List.set_cons_zero, List.set_cons_succ]
                refine wpAny_ready (rs := [4]) (by kernel_rfl) (by simp) ?_
                refine AllReady.cons rfl (fun K hK => ?_) ?_
                · go_simp
                  refine hK _ _ ?_
                  clear hK K
                  try simp only [List.getElem_toArray, List.getElem_cons_zero, List.getElem_cons_succ, Act.put, List.setIfInBounds_toArray, List.set_cons_zero, List.set_cons_succ]
                  refine wpAny_take (i := 5) (v := ?_) rfl (by kernel_rfl) (by kernel_rfl) (by kernel_rfl) (fun _ _ _ h => h) (Or.inl ⟨by rfl, ?_⟩) ?_
                  rotate_left 1
                  · (intro w; (go_simp; try rw [if_neg (by (try simp only [List.length_cons, List.length_append, List.length_nil]); omega)]); try with_reducible rfl)
                  try simp only [List.getElem_toArray, List.getElem_cons_zero, List.getElem_cons_succ, Act.put, List.setIfInBounds_toArray, List.set_cons_zero, List.set_cons_succ]
                  refine wpAny_ready (rs := [11]) (by kernel_rfl) (by simp) ?_
                  refine AllReady.cons rfl (fun K hK => ?_) ?_
                  · go_simp
                    refine hK _ _ ?_
                    clear hK K
                    try simp only [List.getElem_toArray, List.getElem_cons_zero, List.getElem_cons_succ, Act.put, List.setIfInBounds_toArray, List.set_cons_zero, List.set_cons_succ]
                    refine wpAny_ready (rs := [12]) (by kernel_rfl) (by simp) ?_
                    refine AllReady.cons rfl (fun K hK => ?_) ?_
                    · rw [if_pos (by rfl)]
                      refine op_append (.tmp 29) (.tmp 40) 30 rfl _ _ rfl rfl hap ?_
                      refine hK _ _ ?_
                      clear hK K
                      try simp only [List.getElem_toArray, List.getElem_cons_zero, List.getElem_cons_succ, Act.put, List.setIfInBounds_toArray, List.set_cons_zero, List.set_cons_succ]
                      refine wpAny_take (i := 13) (v := ?_) rfl (by kernel_rfl) (by kernel_rfl) (by kernel_rfl) (fun _ _ _ h => h) (Or.inl ⟨by rfl, ?_⟩) ?_
                      rotate_left 1
                      · (intro w; go_simp; try with_reducible rfl)
                      try simp only [List.getElem_toArray, List.getElem_cons_zero, List.getElem_cons_succ, Act.put, List.setIfInBounds_toArray, List.set_cons_zero, List.set_cons_succ]
                      refine wpAny_done (by kernel_rfl) ?_ _
                      go_wp2
                      go_roundg (sizes (q ++ [(yx ++ [108], l), (yx ++ [114], r)]))
                      case measure => exact hms.out
                      case rel => exact HE
                    exact AllReady.nil
                  exact AllReady.nil
                exact AllReady.nil
              exact AllReady.nil
            exact AllReady.nil
          refine AllReady.cons rfl (fun K hK => ?_) ?_
          · go_simp
            refine hK _ _ ?_
            clear hK K
            try simp only [List.getElem_toArray, List.getElem_cons_zero, List.getElem_cons_succ, Act.put, List.setIfInBounds_toArray, List.set_cons_zero, List.set_cons_succ]
            refine wpAny_ready (rs := [3, 9]) (by kernel_rfl) (by simp) ?_
            refine AllReady.cons rfl (fun K hK => ?_) ?_
            · go_simp
              refine hK _ _ ?_
              clear hK K
              try simp only [List.getElem_toArray, List.getElem_cons_zero, List.getElem_cons_succ, Act.put, List.setIfInBounds_toArray, List.set_cons_zero, List.set_cons_succ]
              refine wpAny_ready (rs := [4, 9]) (by kernel_rfl) (by simp) ?_
              refine AllReady.cons rfl (fun K hK => ?_) ?_
              · go_simp
                refine hK _ _ ?_
                clear hK K
                try simp only [List.getElem_toArray, List.getElem_cons_zero, List.getElem_cons_succ, Act.put, List.setIfInBounds_toArray, List.set_cons_zero, List.set_cons_succ]
                refine wpAny_take (i := 5) (v := ?_) rfl (by kernel_rfl) (by kernel_rfl) (by kernel_rfl) (fun _ _ _ h => h) (Or.inl ⟨by rfl, ?_⟩) ?_
                rotate_left 1
                · (intro w; (go_simp; try rw [if_neg (by (try simp only [List.length_cons, List.length_append, List.length_nil]); omega)]); try with_reducible rfl)
                try simp only [List.getElem_toArray, List.getElem_cons_zero, List.getElem_cons_succ, Act.put, List.setIfInBounds_toArray, List.set_cons_zero, List.set_cons_succ]
                refine wpAny_ready (rs := [9]) (by kernel_rfl) (by simp) ?_
                refine AllReady.cons rfl (fun K hK => ?_) ?_
                · go_simp
                  refine hK _ _ ?_
                  clear hK K
                  try simp only [List.getElem_toArray, List.getElem_cons_zero, List.getElem_cons_succ, Act.put, List.setIfInBounds_toArray, List.set_cons_zero, List.set_cons_succ]
                  refine wpAny_take (i := 10) (v := ?_) rfl (by kernel_rfl) (by kernel_rfl) (by kernel_rfl) (fun _ _ _ h => h) (Or.inl ⟨by rfl, ?_⟩) ?_
                  rotate_left 1
                  · (intro w; (go_simp; try rw [if_neg (by (try simp only [List.length_cons, List.length_append, List.length_nil]); omega)]); try with_reducible rfl)
                  try simp only [List.getElem_toArray, List.getElem_cons_zero, List.getElem_cons_succ, Act.put, List.setIfInBounds_toArray, List.set_cons_zero, List.set_cons_succ]
                  refine wpAny_ready (rs := [11]) (by kernel_rfl) (by simp) ?_
                  refine AllReady.cons rfl (fun K hK => ?_) ?_
                  · go_simp
                    refine hK _ _ ?_
                    clear hK K
                    try simp only [List.getElem_toArray, List.getElem_cons_zero, List.getElem_cons_succ, Act.put, List.setIfInBounds_toArray, List.set_cons_zero, List.set_cons_succ]
                    refine wpAny_ready (rs := [12]) (by kernel_rfl) (by simp) ?_
                    refine AllReady.cons rfl (fun K hK => ?_) ?_
                    · rw [if_pos (by rfl)]
                      refine op_append (.tmp 29) (.tmp 40) 30 rfl _ _ rfl rfl hap ?_
                      refine hK _ _ ?_
                      clear hK K
                      try simp only [List.getElem_toArray, List.getElem_cons_zero, List.getElem_cons_succ, Act.put, List.setIfInBounds_toArray, List.set_cons_zero, List.set_cons_succ]
                      refine wpAny_take (i := 13) (v := ?_) rfl (by kernel_rfl) (by kernel_rfl) (by kernel_rfl) (fun _ _ _ h => h) (Or.inl ⟨by rfl, ?_⟩) ?_
                      rotate_left 1
                      · (intro w; go_simp; try with_reducible rfl)
                      try simp only [List.getElem_toArray, List.getElem_cons_zero, List.getElem_cons_succ, Act.put, List.setIfInBounds_toArray, List.set_cons_zero, List.set_cons_succ]
                      refine wpAny_done (by kernel_rfl) ?_ _
                      go_wp2
                      go_roundg (sizes (q ++ [(yx ++ [108], l), (yx ++ [114], r)]))
                      case measure => exact hms.out
                      case rel => exact HE
                    exact AllReady.nil
                  exact AllReady.nil
                exact AllReady.nil
              refine AllReady.cons rfl (fun K hK => ?_) ?_
              · go_simp
                refine hK _ _ ?_
                clear hK K
                try simp only [List.getElem_toArray, List.getElem_cons_zero, List.getElem_cons_succ, Act.put, List.setIfInBounds_toArray, List.set_cons_zero, List.set_cons_succ]
                refine wpAny_take (i := 10) (v := ?_) rfl (by kernel_rfl) (by kernel_rfl) (by kernel_rfl) (fun _ _ _ h => h) (Or.inl ⟨by rfl, ?_⟩) ?_
                rotate_left 1
                · (intro w; (go_simp; try rw [if_neg (by (try simp only [List.length_cons, List.length_append, List.length_nil]); omega)]); try with_reducible rfl)
                try simp only [List.getElem_toArray, List.getElem_cons_zero, List.getElem_cons_succ, Act.put, List.setIfInBounds_toArray, List.set_cons_zero, List.set_cons_succ]
                refine wpAny_ready (rs := [4]) (by kernel_rfl) (by simp) ?_
                refine AllReady.cons rfl (fun K hK => ?_) ?_
                · go_simp
                  refine hK _ _ ?_
                  clear hK K
                  try simp only [List.getElem_toArray, List.getElem_cons_zero, List.getElem_cons_succ, Act.put, List.setIfInBounds_toArray, List.set_cons_zero, List.set_cons_succ]
                  refine wpAny_take (i := 5) (v := ?_) rfl (by kernel_rfl) (by kernel_rfl) (by kernel_rfl) (fun _ _ _ h => h) (Or.inl ⟨by rfl, ?_⟩) ?_
                  rotate_left 1
                  · (intro w; (go_simp; try rw [if_neg (by (try simp only [List.length_cons, List.length_append, List.length_nil]); omega)]); try with_reducible rfl)
                  try simp only [List.getElem_toArray, List.getElem_cons_zero, List.getElem_cons_succ, Act.put, List.setIfInBounds_toArray, List.set_cons_zero, List.set_cons_succ]
                  refine wpAny_ready (rs := [11]) (by kernel_rfl) (by simp) ?_
                  refine AllReady.cons rfl (fun K hK => ?_) ?_
                  · go_simp
                    refine hK _ _ ?_
                    clear hK K
                    try simp only [List.getElem_toArray, List.getElem_cons_zero, List.getElem_cons_succ, Act.put, List.setIfInBounds_toArray, List.set_cons_zero, List.set_cons_succ]
                    refine wpAny_ready (rs := [12]) (by kernel_rfl) (by simp) ?_
                    refine AllReady.cons rfl (fun K hK => ?_) ?_
                    · rw [if_pos (by rfl)]
                      refine op_append (.tmp 29) (.tmp 40) 30 rfl _ _ rfl rfl hap ?_
                      refine hK _ _ ?_
                      clear hK K
                      try simp only [List.getElem_toArray, List.getElem_cons_zero, List.getElem_cons_succ, Act.put, List.setIfInBounds_toArray, List.set_cons_zero, List.set_cons_succ]
                      refine wpAny_take (i := 13) (v := ?_) rfl (by kernel_rfl) (by kernel_rfl) (by kernel_rfl) (fun _ _ _ h => h) (Or.inl ⟨by rfl, ?_⟩) ?_
                      rotate_left 1
                      · (intro w; go_simp; try with_reducible rfl)
                      try simp only [List.getElem_toArray, List.getElem_cons_zero, List.getElem_cons_succ, Act.put, List.setIfInBounds_toArray, List.set_cons_zero, List.set_cons_succ]
                      refine wpAny_done (by kernel_rfl) ?_ _
                      go_wp2
                      go_roundg (sizes (q ++ [(yx ++ [108], l), (yx ++ [114], r)]))
                      case measure => exact hms.out
                      case rel => exact HE
                    exact AllReady.nil
                  exact AllReady.nil
                exact AllReady.nil
              exact AllReady.nil
            refine AllReady.cons rfl (fun K hK => ?_) ?_
            · go_simp
              refine hK _ _ ?_
              clear hK K
              try simp only [List.getElem_toArray, List.getElem_cons_zero, List.getElem_cons_succ, Act.put, List.setIfInBounds_toArray, List.set_cons_zero, List.set_cons_succ]
              refine wpAny_take (i := 10) (v := ?_) rfl (by kernel_rfl) (by kernel_rfl) (by kernel_rfl) (fun _ _ _ h => h) (Or.inl ⟨by rfl, ?_⟩) ?_
              rotate_left 1
              · (intro w; (go_simp; try rw [if_neg (by (try simp only [List.length_cons, List.length_append, List.length_nil]); omega)]); try with_reducible rfl)
              try simp only [List.getElem_toArray, List.getElem_cons_zero, List.getElem_cons_succ, Act.put, List.setIfInBounds_toArray, List.set_cons_zero, List.set_cons_succ]
              refine wpAny_ready (rs := [3]) (by kernel_rfl) (by simp) ?_
              refine AllReady.cons rfl (fun K hK => ?_) ?_
              · go_simp
                refine hK _ _ ?_
                clear hK K
                try simp only [List.getElem_toArray, List.getElem_cons_zero, List.getElem_cons_succ, Act.put, List.setIfInBounds_toArray, List.set_cons_zero, List.set_cons_succ]
                refine wpAny_ready (rs := [4]) (by kernel_rfl) (by simp) ?_
                refine AllReady.cons rfl (fun K hK => ?_) ?_
                · go_simp
                  refine hK _ _ ?_
                  clear hK K
                  try simp only [List.getElem_toArray, List.getElem_cons_zero, List.getElem_cons_succ, Act.put, List.setIfInBounds_toArray, List.set_cons_zero, List.set_cons_succ]
                  refine wpAny_take (i := 5) (v := ?_) rfl (by kernel_rfl) (by kernel_rfl) (by kernel_rfl) (fun _ _ _ h => h) (Or.inl ⟨by rfl, ?_⟩) ?_
                  rotate_left 1
                  · (intro w; (go_simp; try rw [if_neg (by (try simp only [List.length_cons, List.length_append, List.length_nil]); omega)]); try with_reducible rfl)
                  try simp only [List.getElem_toArray, List.getElem_cons_zero, List.getElem_cons_succ, Act.put, List.setIfInBounds_toArray, List.set_cons_zero, List.set_cons_succ]
                  refine wpAny_ready (rs := [11]) (by kernel_rfl) (by simp) ?_
                  refine AllReady.cons rfl (fun K hK => ?_) ?_
                  · go_simp
                    refine hK _ _ ?_
                    clear hK K
                    try simp only [List.getElem_toArray, List.getElem_cons_zero, List.getElem_cons_succ, Act.put, List.setIfInBounds_toArray, List.set_cons_zero, List.set_cons_succ]
                    refine wpAny_ready (rs := [12]) (by kernel_rfl) (by simp) ?_
                    refine AllReady.cons rfl (fun K hK => ?_) ?_
                    · rw [if_pos (by rfl)]
                      refine op_append (.tmp 29) (.tmp 40) 30 rfl _ _ rfl rfl hap ?_
                      refine hK _ _ ?_
                      clear hK K
                      try simp only [List.getElem_toArray, List.getElem_cons_zero, List.getElem_cons_succ, Act.put, List.setIfInBounds_toArray, List.set_cons_zero, List.set_cons_succ]
                      refine wpAny_take (i := 13) (v := ?_) rfl (by kernel_rfl) (by kernel_rfl) (by kernel_rfl) (fun _ _ _ h => h) (Or.inl ⟨by rfl, ?_⟩) ?_
                      rotate_left 1
                      · (intro w; go_simp; try with_reducible rfl)
                      try simp only [List.getElem_toArray, List.getElem_cons_zero, List.getElem_cons_succ, Act.put, List.setIfInBounds_toArray, List.set_cons_zero, List.set_cons_succ]
                      refine wpAny_done (by kernel_rfl) ?_ _
                      go_wp2
                      go_roundg (sizes (q ++ [(yx ++ [108], l), (yx ++ [114], r)]))
                      case measure => exact hms.out
                      case rel => exact HE
                    exact AllReady.nil
                  exact AllReady.nil
                exact AllReady.nil
              exact AllReady.nil
            exact AllReady.nil
          exact AllReady.nil
end Go.Proofs.Ytlpabhgfmkilnaa.L14
