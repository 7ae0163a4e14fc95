/- The statements' own net: frames that lie about; add. The statements' own net: out. -/
import Derived.Test.YtiodphkmllcjdaaGreatLkD
import Derived.Deep.AppendLies
import Derived.Deep.Cut
section
namespace Go.Proofs.YtiodphkmllcjdaaGreat.L7
open Go.ChangeShapes Go.WideShapes Go.ChangeAt Go.RowKit L6

def nums (l : List Nat) : List Value := l.map fun (n : Nat) => .int .i64 (n : Int)
theorem nums_len (l : List Nat) : (nums l).length = l.length := by simp [nums]
structure NetAt (W : World) (B h : Nat) (tos : List Nat) (fs : List Bytes) (vt vl : Value) : Prop where
  own : W.heap[h]? = some (.cells #[vt, vl] 36 (0, 0))
  base : B ≤ h
  to : W.ownsRow B 3 1 vt tos.length (nums tos)
  l : W.ownsRow B 46 1 vl fs.length (strs fs)
  len : tos.length = fs.length
def NIn (h : Nat) (vt vl : Value) (k : Nat) : Prop := k = h ∨ vt.ownBlock = some k ∨ vl.ownBlock = some k
theorem NetAt.lt {W : World} {B h : Nat} {tos : List Nat} {fs : List Bytes} {vt vl : Value} (n : NetAt W B h tos fs vt vl) : h < W.heap.size := (Array.getElem?_eq_some_iff.1 n.own).1
theorem NetAt.inlt {W : World} {B h : Nat} {tos : List Nat} {fs : List Bytes} {vt vl : Value} (n : NetAt W B h tos fs vt vl) {k : Nat} (hk : NIn h vt vl k) : B ≤ k ∧ k < W.heap.size := by
  rcases hk with rfl | e | e
  · exact ⟨n.base, n.lt⟩
  · exact n.to.lt k e
  · exact n.l.lt k e
theorem NetAt.same {W W' : World} {B h : Nat} {tos : List Nat} {fs : List Bytes} {vt vl : Value} (n : NetAt W B h tos fs vt vl) (hs : ∀ k, NIn h vt vl k → W'.heap[k]? = W.heap[k]?) : NetAt W' B h tos fs vt vl :=
  ⟨(hs h (.inl rfl)).trans n.own, n.base, L5.own_same n.to (fun q e => hs q (.inr (.inl e))), L5.own_same n.l (fun q e => hs q (.inr (.inr e))), n.len⟩
theorem NetAt.below {W W' : World} {B h : Nat} {tos : List Nat} {fs : List Bytes} {vt vl : Value} (n : NetAt W B h tos fs vt vl) (hb : Below W.heap.size W W') : NetAt W' B h tos fs vt vl := n.same fun k hk => hb.block k (n.inlt hk).2
theorem NetAt.cells {W : World} {B h : Nat} {tos : List Nat} {fs : List Bytes} {vt vl : Value} (n : NetAt W B h tos fs vt vl) : W.cell? ⟨h, 0, none⟩ = some vt ∧ W.cell? ⟨h, 1, none⟩ = some vl ∧ W.frozen? ⟨h, 0, none⟩ = false ∧ W.frozen? ⟨h, 1, none⟩ = false := by
  have e := n.own
  refine ⟨?_, ?_, ?_, ?_⟩
  · simp only [World.cell?]; rw [e]; rfl
  · simp only [World.cell?]; rw [e]; rfl
  · simp only [World.frozen?]; rw [e]; simp
  · simp only [World.frozen?]; rw [e]; simp
theorem NetAt.apart {W : World} {B h : Nat} {tos : List Nat} {fs : List Bytes} {vt vl : Value} (n : NetAt W B h tos fs vt vl) : vt.ownBlock ≠ some h ∧ vl.ownBlock ≠ some h ∧ (∀ q, vt.ownBlock = some q → vl.ownBlock ≠ some q) := by
  have k1 : 3 ≠ 36 := by decide
  have k2 : 46 ≠ 36 := by decide
  have key : ∀ {v : Value} {e : TypeId} {m : Nat} {xs : List Value}, W.ownsRow B e 1 v m xs → e ≠ 36 → v.ownBlock ≠ some h := by
    intro v e m xs hr he e'
    rcases hr.2 with ⟨rfl, _⟩ | ⟨q, cap, cur, rfl, _, h2, _⟩
    · cases e'
    · obtain rfl : q = h := by cases e'; rfl
      have := n.own
      rw [h2] at this
      simp at this
      exact he this.2
  exact ⟨key n.to k1, key n.l k2, own_apart n.to n.l (fun e => term_int e.symm)⟩
theorem blk_setj {W : World} {b j : Nat} {t : TypeId} {cs : Array Value} (h : W.heap[b]? = some (.cells cs t (0, 0))) (v : Value) : (W.setCell ⟨b, j, none⟩ v).heap[b]? = some (.cells (cs.setIfInBounds j v) t (0, 0)) := by
  obtain ⟨hlt, hk⟩ := Array.getElem?_eq_some_iff.1 h
  show (W.heap.modify b _)[b]? = _
  rw [Array.getElem?_eq_getElem (by rw [Array.size_modify]; exact hlt), Array.getElem_modify_self, hk]
  rfl
theorem pair_set0 (a b v : Value) : (#[a, b] : Array Value).setIfInBounds 0 v = #[v, b] := rfl
theorem pair_set1 (a b v : Value) : (#[a, b] : Array Value).setIfInBounds 1 v = #[a, v] := rfl

theorem row_not {W : World} {B h : Nat} {e t : TypeId} {v : Value} {m : Nat} {xs : List Value} {cs : Array Value} (hr : W.ownsRow B e 1 v m xs) (hb : W.heap[h]? = some (.cells cs t (0, 0))) (he : e ≠ t) : v.ownBlock ≠ some h := by
  intro e'
  rcases hr.2 with ⟨rfl, _⟩ | ⟨q, cap, cur, rfl, _, h2, _⟩
  · cases e'
  · obtain rfl : q = h := by cases e'; rfl
    rw [h2] at hb
    cases hb
    exact he rfl
theorem Only.grows {F : Nat → Prop} {w W W' : World} {row : Option Nat} (h : Only F w W) (hg : W.grownBy W' row) (hr : ∀ k, row = some k → F k ∨ w.heap.size ≤ k) : Only F w W' :=
  ⟨hg.os.trans h.os, hg.tape.trans h.tape, hg.output.trans h.output, Nat.le_trans h.size hg.size, fun k hk hn => (hg.block k (Nat.lt_of_lt_of_le hk h.size) (fun e => by rcases hr k e.symm with c | c; exact hn c; omega)).trans (h.block k hk hn)⟩
theorem int_net : 3 ≠ 36 := by decide
theorem term_net : 46 ≠ 36 := by decide
/-- What is added: what is no empty text. -/
def laid (zs : List Bytes) : List Bytes := zs.filter (fun z => !z.isEmpty)
theorem laid_take {zs : List Bytes} {i : Nat} {z : Bytes} (h : zs[i]? = some z) : laid (zs.take (i + 1)) = laid (zs.take i) ++ (if z = [] then [] else [z]) := by
  rw [List.take_add_one, h]
  unfold laid
  simp only [Option.toList_some, List.filter_append]
  congr 1
  cases z <;> simp
def tosOf (to : Nat) (zs : List Bytes) : List Nat := (laid zs).map fun _ => to
def AddedOut (w : World) (B h : Nat) (tos : List Nat) (fs : List Bytes) (vt vl : Value) (to : Nat) (zs : List Bytes) (e : Ending) (w' : World) : Prop :=
  e = .returned (.tuple #[]) ∧ ∃ vt' vl', NetAt w' B h (tos ++ tosOf to zs) (fs ++ laid zs) vt' vl' ∧ Only (NIn h vt vl) w w' ∧ (∀ q, NIn h vt' vl' q → NIn h vt vl q ∨ w.heap.size ≤ q)
def AddGo (w : World) (B h : Nat) (tos : List Nat) (fs : List Bytes) (vt vl : Value) (to : Nat) (zs : List Bytes) (k : Nat) (v6 : Value) (wr : World) : Prop :=
  ∃ (i : Nat) (vt' vl' : Value), k + i = zs.length ∧ v6 = .int .i64 i ∧ NetAt wr B h (tos ++ tosOf to (zs.take i)) (fs ++ laid (zs.take i)) vt' vl' ∧ Only (NIn h vt vl) w wr ∧ (∀ q, NIn h vt' vl' q → NIn h vt vl q ∨ w.heap.size ≤ q)
theorem info_i4 : (Tryz.prog.info? 3).map (fun i => (i.zero, i.size, i.bytes)) = some (some (.int .i64 0), 1, 8) := by kernel_rfl
set_option maxRecDepth 100000 in
set_option maxHeartbeats 4000000 in
theorem add_calls {w : World} {B h : Nat} {tos : List Nat} {fs : List Bytes} {vt vl : Value} (n : NetAt w B h tos fs vt vl) (hB : B ≤ w.heap.size) (to : Nat) {Az : Option Addr} {cz : Nat} (zs : List Bytes) (hz : SRow w (.slice Az zs.length cz) (ba zs)) (hzn : ∀ ad, Az = some ad → ¬ NIn h vt vl ad.block) (hlen : fs.length + zs.length ≤ 1000000) :
    Calls Tryz.prog 21 #[.pointer (some ⟨h, 0, none⟩), .int .i64 to, .slice Az zs.length cz] w (AddedOut w B h tos fs vt vl to zs) := by
  obtain ⟨i0, hi, hz0, hz1, hz2⟩ := info_parts info_term
  obtain ⟨i1, hj, hy0, hy1, hy2⟩ := info_parts info_i4
  have HZ : Hid (∀ j x, zs[j]? = some x → ∃ ad : Addr, Az = some ad ∧ ad.block < w.heap.size ∧ w.cell? (ad.add j) = some (.string ⟨x.toArray⟩)) := fun j x hx => by
    obtain ⟨A, c, e, k⟩ := hz
    simp only [Value.slice.injEq] at e
    obtain ⟨rfl, _, _⟩ := e
    exact k j _ (by simp [ba, hx])
  have HZn := Lib.hid hzn
  have H0 : Hid (AddGo w B h tos fs vt vl to zs zs.length (.int .i64 0) w) := ⟨0, vt, vl, by omega, rfl, by simpa [tosOf, laid] using n, Only.refl _ _, fun q hq => .inl hq⟩
  have hl := n.len
  clear n hz hzn
  go_enter Tryz.func21, Tryz.ntmps21
  go_wp2
  go_loopg [6] zs.length (fun k v6 wr => AddGo w B h tos fs vt vl to zs k v6 wr)
  case atStart => exact H0.out
  case round =>
    obtain ⟨i, vt', vl', hk, rfl, hN, hO, hIn⟩ := hrel
    by_cases hlt : i < zs.length
    · obtain ⟨z, hzi⟩ : ∃ z, zs[i]? = some z := ⟨_, List.getElem?_eq_getElem hlt⟩
      obtain ⟨ad, rfl, hadb, hadc⟩ := HZ.out i z hzi
      have hadn := HZn.out ad rfl
      have c1 : wr.cell? (ad.add i) = some (.string ⟨z.toArray⟩) := (World.cell?_of_block (w := w) (by rw [L6.addr_block]; exact hO.block _ hadb hadn)).trans hadc
      have j1 : (i : Int) < (zs.length : Int) := by omega
      have j2 : (0 : Int) ≤ (i : Int) := by omega
      have hi6 : i ≤ 1000000 := by omega
      have hmeas := Lib.hid (show zs.length - (i + 1) < gk by omega)
      have hmeq := Lib.hid (show zs.length - (i + 1) + (i + 1) = zs.length by omega)
      have htk := laid_take hzi
      have HN := Lib.hid hN
      have HO := Lib.hid hO
      have HIn := Lib.hid hIn
      clear hN hO hIn hk hadc hzi H0
      by_cases hz0' : z = []
      · subst hz0'
        rw [if_pos rfl, List.append_nil] at htk
        have HF : Hid (AddGo w B h tos fs vt vl to zs (zs.length - (i + 1)) (.int .i64 ((i : Int) + 1)) wr) := ⟨i + 1, vt', vl', hmeq.out, rfl, by unfold tosOf; rw [htk]; exact HN.out, HO.out, HIn.out⟩
        clear HN HO HIn htk
        go_wp2
        go_roundg (zs.length - (i + 1))
        case measure => exact hmeas.out
        case rel => exact HF.out
      · rw [if_neg hz0'] at htk
        have hze : (z == []) = false := by simpa using hz0'
        have hN := HN.out
        obtain ⟨m0, m1, mf0, mf1⟩ := hN.cells
        obtain ⟨p1, p2, p3⟩ := hN.apart
        have hhl := hN.lt
        have hBr : B ≤ wr.heap.size := Nat.le_trans hB HO.out.size
        have hln : (tos ++ tosOf to (zs.take i)).length ≤ 1000000 := by
          have h1 : (laid (zs.take i)).length ≤ i := by unfold laid; refine Nat.le_trans (List.length_filter_le _ _) ?_; simp; omega
          have h2 : (tosOf to (zs.take i)).length = (laid (zs.take i)).length := by unfold tosOf; simp
          rw [List.length_append, h2]
          omega
        have hln2 : (fs ++ laid (zs.take i)).length ≤ 1000000 := by rw [← hN.len]; exact hln
        generalize hts : tos ++ tosOf to (zs.take i) = ts at *
        generalize hff : fs ++ laid (zs.take i) = ff at *
        have HT : Hid (ts ++ [to] = tos ++ tosOf to (zs.take (i + 1)) ∧ ff ++ [z] = fs ++ laid (zs.take (i + 1))) := by
          rw [← hts, ← hff]
          unfold tosOf
          rw [htk]
          exact ⟨by simp, by simp⟩
        have HRT := Lib.hid hN.to
        have HRL := Lib.hid hN.l
        -- behind the first append
        have HA1 : Hid (∀ v3 w3, w3.ownsRow B 3 1 v3 (ts.length + 1) (nums ts ++ [.int .i64 (to : Int)]) → (wr.alloc (.cells #[.int .i64 (to : Int)] 3)).grownBy w3 vt'.ownBlock → (v3.ownBlock = vt'.ownBlock ∨ v3.ownBlock = some (wr.alloc (.cells #[.int .i64 (to : Int)] 3)).heap.size) →
            w3.cell? ⟨h, 0, none⟩ = some vt' ∧ w3.frozen? ⟨h, 0, none⟩ = false ∧ ∀ V2, w3.setCell ⟨h, 0, none⟩ v3 = V2 →
              V2.heap[h]? = some (.cells #[v3, vl'] 36 (0, 0)) ∧ V2.ownsRow B 3 1 v3 (ts.length + 1) (nums ts ++ [.int .i64 (to : Int)]) ∧ V2.ownsRow B 46 1 vl' ff.length (strs ff) ∧ Only (NIn h vt vl) w V2 ∧ V2.cell? (ad.add i) = some (.string ⟨z.toArray⟩) ∧ wr.heap.size ≤ V2.heap.size ∧
              (∀ q, v3.ownBlock = some q → NIn h vt vl q ∨ w.heap.size ≤ q)) := fun v3 w3 k1 k2 k3 => by
          have k4 := L5.grow_trans (World.grownBy_alloc wr (.cells #[.int .i64 (to : Int)] 3) _) k2
          have o3 : w3.heap[h]? = some (.cells #[vt', vl'] 36 (0, 0)) := (k4.block h hhl (fun e => p1 e.symm)).trans hN.own
          have r3 := own_grown HRL.out k4 (fun q e e' => p3 q e' e)
          have hv3 := row_not k1 o3 int_net
          refine ⟨by simp only [World.cell?]; rw [o3]; rfl, by simp only [World.frozen?]; rw [o3]; simp, fun V2 hV2 => ?_⟩
          have kk : ∀ q, q ≠ h → V2.heap[q]? = w3.heap[q]? := fun q hq => by rw [← hV2]; exact Below.heap_setCell _ _ _ _ (by show q ≠ h; exact hq)
          have oo : Only (NIn h vt vl) w V2 := by
            rw [← hV2]
            exact (HO.out.grows k4 (fun k e => HIn.out k (.inr (.inl e)))).setCell (.inl (.inl rfl)) _
          refine ⟨?_, L5.own_same k1 (fun q e => kk q (fun e' => hv3 (by rw [e, e']))), L5.own_same r3 (fun q e => kk q (fun e' => p2 (by rw [e, e']))), oo, ?_, ?_, ?_⟩
          · have := blk_setj (j := 0) o3 v3
            rw [pair_set0] at this
            rw [← hV2]
            exact this
          · exact (World.cell?_of_block (w := w) (by rw [L6.addr_block]; exact oo.block _ hadb hadn)).trans ((World.cell?_of_block (w := w) (by rw [L6.addr_block]; exact HO.out.block _ hadb hadn)).symm.trans c1)
          · have h1 := k4.size
            have : V2.heap.size = w3.heap.size := by rw [← hV2]; simp
            omega
          · intro q e
            rcases k3 with k3 | k3
            · exact HIn.out q (.inr (.inl (by rw [← k3]; exact e)))
            · right
              rw [k3] at e
              cases e
              have := HO.out.size
              simp
              omega
        -- behind the second append
        have HA2 : Hid (∀ v3 V2, V2.heap[h]? = some (.cells #[v3, vl'] 36 (0, 0)) → V2.ownsRow B 3 1 v3 (ts.length + 1) (nums ts ++ [.int .i64 (to : Int)]) → V2.ownsRow B 46 1 vl' ff.length (strs ff) → Only (NIn h vt vl) w V2 → (∀ q, v3.ownBlock = some q → NIn h vt vl q ∨ w.heap.size ≤ q) →
            ∀ g cc w6, w6.ownsRow B 46 1 (.slice (some ⟨g, 0, none⟩) (ff.length + 1) cc) (ff.length + 1) (strs ff ++ [.string ⟨z.toArray⟩]) → (V2.drew.alloc (.cells #[.string ⟨z.toArray⟩] 46)).grownBy w6 vl'.ownBlock → (vl'.ownBlock = some g ∨ g = V2.heap.size + 1) →
              w6.cell? ⟨h, 1, none⟩ = some vl' ∧ w6.frozen? ⟨h, 1, none⟩ = false ∧ AddGo w B h tos fs vt vl to zs (zs.length - (i + 1)) (.int .i64 ((i : Int) + 1)) (w6.setCell ⟨h, 1, none⟩ (.slice (some ⟨g, 0, none⟩) (ff.length + 1) cc))) := fun v3 V2 a1 a2 a3 a4 a5 g cc w6 k1 k2 k3 => by
          have hhl2 : h < V2.heap.size := (Array.getElem?_eq_some_iff.1 a1).1
          have bA : V2.grownBy (V2.drew.alloc (.cells #[.string ⟨z.toArray⟩] 46)) vl'.ownBlock := L5.grow_trans (w := V2.drew) ⟨rfl, rfl, rfl, Nat.le_refl _, fun _ _ _ => rfl⟩ (World.grownBy_alloc V2.drew (.cells #[.string ⟨z.toArray⟩] 46) _)
          have k4 := L5.grow_trans bA k2
          have hvl := row_not a3 a1 term_net
          have o6 : w6.heap[h]? = some (.cells #[v3, vl'] 36 (0, 0)) := (k4.block h hhl2 (fun e => hvl e.symm)).trans a1
          have r6 := own_grown a2 k4 (fun q e e' => own_apart a3 a2 term_int q e' e)
          have hv6 := row_not k1 o6 term_net
          have hv3 := row_not a2 a1 int_net
          refine ⟨by simp only [World.cell?]; rw [o6]; rfl, by simp only [World.frozen?]; rw [o6]; simp, i + 1, v3, .slice (some ⟨g, 0, none⟩) (ff.length + 1) cc, hmeq.out, rfl, ⟨?_, HN.out.base, ?_, ?_, ?_⟩, ?_, ?_⟩
          · have := blk_setj (j := 1) o6 (.slice (some ⟨g, 0, none⟩) (ff.length + 1) cc)
            rw [pair_set1] at this
            exact this
          · rw [← HT.out.1, List.length_append]
            have e : nums (ts ++ [to]) = nums ts ++ [.int .i64 (to : Int)] := by simp [nums]
            rw [e]
            exact L5.own_same r6 (fun q e => Below.heap_setCell _ _ _ _ (by show q ≠ h; intro e'; exact hv3 (by rw [e, e'])))
          · rw [← HT.out.2, List.length_append]
            have e : strs (ff ++ [z]) = strs ff ++ [.string ⟨z.toArray⟩] := by simp [strs]
            rw [e]
            exact L5.own_same k1 (fun q e => Below.heap_setCell _ _ _ _ (by show q ≠ h; intro e'; exact hv6 (by rw [e, e'])))
          · rw [← HT.out.1, ← HT.out.2, List.length_append, List.length_append, HN.out.len]
            rfl
          · exact (a4.grows k4 (fun k e => HIn.out k (.inr (.inr e)))).setCell (.inl (.inl rfl)) _
          · intro q hq
            rcases hq with e | e | e
            · exact .inl (.inl e)
            · exact a5 q e
            · rcases k3 with k3 | k3
              · exact HIn.out q (.inr (.inr (by rw [k3]; exact e)))
              · right
                cases e
                have := a4.size
                show w.heap.size ≤ g
                omega
        clear hN p1 p2 p3 hts hff htk hhl
        go_wp2_with (at_builtin; refine wpList_append_own_at _ rfl _ _ 33 rfl B 3 i1 _ 1 8 Tryz.underlying33 hj hy0 hy1 hy2 rfl (by decide) _ _ _ rfl (HRT.out.alloc _) ⟨wr.heap.size, 0, none⟩ 1 1 [.int .i64 (to : Int)] rfl rfl (cell_one_new _ _ _) (by simp [Value.oneCell']) (by unfold maxLen; omega) (by omega) (by simp; omega) ?_; intro v3 w3 hown' hgrow hnil hat; obtain ⟨A3, c3, rfl⟩ := L5.own_slice hown'; obtain ⟨n0, nf0, HN2⟩ := HA1.out _ w3 hown' hgrow hat; obtain ⟨V2, hV2⟩ : ∃ V2, w3.setCell ⟨h, 0, none⟩ (.slice A3 (ts.length + 1) c3) = V2 := ⟨_, rfl⟩; have HV := Lib.hid (HN2 V2 hV2); have e1 : V2.cell? ⟨h, 1, none⟩ = some vl' := (by have := HV.out.1; simp only [World.cell?]; rw [this]; rfl); have e2 := HV.out.2.2.2.2.1; clear hown' hgrow hnil hat HN2)
        clear HA1 c1 m0 m1 mf0 mf1
        have HR5 : Hid ((V2.drew.alloc (.cells #[.string ⟨z.toArray⟩] 46)).ownsRow B 46 1 vl' ff.length (strs ff)) := L5.own_below HV.out.2.2.1 ((Below.refl _ V2).drew.alloc (Nat.le_refl _) _)
        have HNews : Hid (∀ (j : Nat) (u : Value), [(Value.string ⟨z.toArray⟩)][j]? = some u → (V2.drew.alloc (.cells #[.string ⟨z.toArray⟩] 46)).cell? ((⟨V2.heap.size, 0, none⟩ : Addr).add j) = some u) :=
          World.news_of_block (cs := #[.string ⟨z.toArray⟩]) (t := 46) (fr := (0, 0)) (heap_alloc_new V2.drew _)
        have hzA : (V2.drew.alloc (.cells #[.string ⟨z.toArray⟩] 46)).heap.size = V2.heap.size + 1 := by rw [World.size_alloc]; rfl
        have hBA : B ≤ (V2.drew.alloc (.cells #[.string ⟨z.toArray⟩] 46)).heap.size := by have := HV.out.2.2.2.2.2.1; omega
        have HEnd := Lib.hid (HA2.out _ V2 HV.out.1 HV.out.2.1 HV.out.2.2.1 HV.out.2.2.2.1 HV.out.2.2.2.2.2.2)
        have e3 : (V2.alloc (.cells #[.string ⟨z.toArray⟩] 46)).cell? ⟨h, 1, none⟩ = some vl' := (((Below.refl V2.heap.size V2).alloc (Nat.le_refl _) _).cell (p := ⟨h, 1, none⟩) (Array.getElem?_eq_some_iff.1 HV.out.1).1).trans e1
        clear HA2 HV
        go_wp2
        go_region_law (first
          | (refine step_append_lies _ rfl (.tmp 32) (.tmp 37) 34 rfl B 46 i0 (.string ⟨#[]⟩) 1 16 Tryz.underlying34 hi hz0 hz1 hz2 rfl (by decide) vl' ff.length (strs ff) (by simp [Act.eval]) HR5.out ⟨V2.heap.size, 0, none⟩ 1 1 [.string ⟨z.toArray⟩] (by simp [Act.eval]) rfl HNews.out (by simp [Value.oneCell']) (by decide) (by unfold maxLen; omega) (by omega) hBA (V2.heap.size + 1) hzA ?_
             intro gg cc w6 k1 k2 k3 k4
             obtain ⟨j4, jf, jr⟩ := HEnd.out gg cc w6 k1 k2 k3
             have HJ := Lib.hid jr
             clear k1 k2 k3 k4 jr))
        all_goals
          clear HEnd HNews HR5
          go_wp2
          go_roundg (zs.length - (i + 1))
          case measure => exact hmeas.out
          case rel => exact HJ.out
    · have j1 : ¬ (i : Int) < (zs.length : Int) := by omega
      have HF : Hid (AddedOut w B h tos fs vt vl to zs (.returned (.tuple #[])) wr) := by
        obtain rfl : i = zs.length := by omega
        rw [List.take_length] at hN
        exact ⟨rfl, vt', vl', hN, hO, hIn⟩
      clear hN hO hIn hk H0
      go_wp2
      refine bodyPost_end (results_none rfl _ _ _) rfl ?_
      exact HF.out
end Go.Proofs.YtiodphkmllcjdaaGreat.L7
end

section
namespace Go.Proofs.YtiodphkmllcjdaaGreat.L7
open Go.ChangeShapes Go.WideShapes Go.ChangeAt Go.RowKit L6

theorem bfrozen {B : Nat} {w w' : World} (h : Go.RowKit.Below B w w') {b : Nat} (hb : b < B) (j : Nat) : w'.frozen? ⟨b, j, none⟩ = w.frozen? ⟨b, j, none⟩ := World.frozen?_of_block (w := w) (h.block b hb)
/-- One element was cut out of a row, and the row laid into its field. -/
theorem cut_end {V w8 w9 : World} {h i L : Nat} {e t : TypeId} {vs : List Value} {v8 v9 : Value} {cs : Array Value} (hb : V.heap[h]? = some (.cells cs t (0, 0))) (_ : e ≠ t)
    (b8 : w8.ownsRow V.heap.size e 1 v8 i (vs.take i) ∧ (V.drew.alloc (.cells #[] e)).grownBy w8 (some V.heap.size)) (b9 : w9.ownsRow V.heap.size e 1 v9 (i + (L - (i + 1))) (vs.take i ++ vs.drop (i + 1)) ∧ w8.grownBy w9 v8.ownBlock) :
    Go.RowKit.Below V.heap.size V w9 ∧ ∀ j, (w9.setCell ⟨h, j, none⟩ v9).heap[h]? = some (.cells (cs.setIfInBounds j v9) t (0, 0)) ∧ (w9.setCell ⟨h, j, none⟩ v9).ownsRow V.heap.size e 1 v9 (i + (L - (i + 1))) (vs.take i ++ vs.drop (i + 1)) ∧ Only (fun k => k = h) V (w9.setCell ⟨h, j, none⟩ v9) := by
  have hhl : h < V.heap.size := (Array.getElem?_eq_some_iff.1 hb).1
  have c8 : Go.RowKit.Below V.heap.size V w8 := ((Go.RowKit.Below.refl V.heap.size V).drew.alloc (Nat.le_refl _) _).grown b8.2 (by rw [World.size_alloc]; exact Nat.le_succ _) (fun k e => by cases e; exact Nat.le_refl _)
  have c9 : Go.RowKit.Below V.heap.size V w9 := c8.grown b9.2 c8.size (fun k e => (b8.1.lt k e).1)
  refine ⟨c9, fun j => ⟨blk_setj ((c9.block h hhl).trans hb) v9, L5.own_same b9.1 (fun q e => Go.RowKit.Below.heap_setCell _ _ _ _ (by show q ≠ h; have := (b9.1.lt q e).1; omega)), ?_⟩⟩
  exact Only.setCell (F := fun k => k = h) (p := ⟨h, j, none⟩) (Only.of_below c9) (.inl rfl) v9
def OutOut (w : World) (B h : Nat) (tos : List Nat) (fs : List Bytes) (vt vl : Value) (i : Nat) (e : Ending) (w' : World) : Prop :=
  e = .returned (.tuple #[]) ∧ ∃ vt' vl', NetAt w' B h (tos.take i ++ tos.drop (i + 1)) (fs.take i ++ fs.drop (i + 1)) vt' vl' ∧ Only (NIn h vt vl) w w' ∧ (∀ q, NIn h vt' vl' q → NIn h vt vl q ∨ w.heap.size ≤ q)
def OutMid (w : World) (B h : Nat) (tos : List Nat) (fs : List Bytes) (vl : Value) (i : Nat) (V : World) : Prop :=
  ∃ vt', V.heap[h]? = some (.cells #[vt', vl] 36 (0, 0)) ∧ V.ownsRow B 3 1 vt' (tos.take i ++ tos.drop (i + 1)).length (nums (tos.take i ++ tos.drop (i + 1))) ∧ V.ownsRow B 46 1 vl fs.length (strs fs) ∧ Only (fun k => k = h) w V ∧ (∀ q, vt'.ownBlock = some q → w.heap.size ≤ q)
theorem own_less {W : World} {base base' : Nat} {e : TypeId} {size n : Nat} {v : Value} {xs : List Value} (h : W.ownsRow base e size v n xs) (hb : base' ≤ base) : W.ownsRow base' e size v n xs :=
  ⟨h.1, h.2.imp id (fun ⟨g, cap, cur, a, b, c⟩ => ⟨g, cap, cur, a, Nat.le_trans hb b, c⟩)⟩
theorem row_only {w V : World} {F : Nat → Prop} {B n : Nat} {e : TypeId} {v : Value} {xs : List Value} (r : w.ownsRow B e 1 v n xs) (o : Only F w V) (hF : ∀ q, v.ownBlock = some q → ¬ F q) : V.ownsRow B e 1 v n xs := L5.own_same r (fun q e => o.block q (r.lt q e).2 (hF q e))
theorem out_mid {w V : World} {B h i L k : Nat} {tos : List Nat} {fs : List Bytes} {vt vl v9 : Value} (n : NetAt w B h tos fs vt vl) (hB : B ≤ w.heap.size) (hL : tos.length = L) (hi : i < L) (hk : k + 1 = L)
    (h1 : V.heap[h]? = some (.cells ((#[vt, vl] : Array Value).setIfInBounds 0 v9) 36 (0, 0))) (h2 : V.ownsRow w.heap.size 3 1 v9 k ((nums tos).take i ++ (nums tos).drop (i + 1))) (h3 : Only (fun k => k = h) w V) : OutMid w B h tos fs vl i V := by
  have e : nums (tos.take i ++ tos.drop (i + 1)) = (nums tos).take i ++ (nums tos).drop (i + 1) := by simp [nums, List.map_take, List.map_drop]
  have el : (tos.take i ++ tos.drop (i + 1)).length = k := by simp; omega
  refine ⟨v9, h1, ?_, row_only n.l h3 (fun q e e' => n.apart.2.1 (by rw [e, e'])), h3, fun q e => (h2.lt q e).1⟩
  rw [e, el]
  exact own_less h2 hB
theorem out_end {w V V' : World} {B h i k : Nat} {tos : List Nat} {fs : List Bytes} {vt vl vt' v9 : Value} (n : NetAt w B h tos fs vt vl) (hB : B ≤ w.heap.size) (hi : i < fs.length) (hk : k + 1 = fs.length)
    (m1 : V.heap[h]? = some (.cells #[vt', vl] 36 (0, 0))) (m2 : V.ownsRow B 3 1 vt' (tos.take i ++ tos.drop (i + 1)).length (nums (tos.take i ++ tos.drop (i + 1)))) (m4 : Only (fun k => k = h) w V) (m5 : ∀ q, vt'.ownBlock = some q → w.heap.size ≤ q)
    (h1 : V'.heap[h]? = some (.cells ((#[vt', vl] : Array Value).setIfInBounds 1 v9) 36 (0, 0))) (h2 : V'.ownsRow V.heap.size 46 1 v9 k ((strs fs).take i ++ (strs fs).drop (i + 1))) (h3 : Only (fun k => k = h) V V') : OutOut w B h tos fs vt vl i (.returned (.tuple #[])) V' := by
  have e : strs (fs.take i ++ fs.drop (i + 1)) = (strs fs).take i ++ (strs fs).drop (i + 1) := by simp [strs, List.map_take, List.map_drop]
  have el : (fs.take i ++ fs.drop (i + 1)).length = k := by simp; omega
  have hl := n.len
  refine ⟨rfl, vt', v9, ⟨h1, n.base, row_only m2 h3 (fun q e e' => row_not m2 m1 int_net (by rw [e, e'])), ?_, by simp; omega⟩, (m4.trans (h3.mono ?_)).mono (fun _ _ e => .inl e), ?_⟩
  · rw [e, el]
    exact own_less h2 (Nat.le_trans hB m4.size)
  · exact fun _ _ e => e
  · rintro q (e | e | e)
    · exact .inl (.inl e)
    · exact .inr (m5 q e)
    · exact .inr (Nat.le_trans m4.size (h2.lt q e).1)
set_option maxRecDepth 100000 in
set_option maxHeartbeats 8000000 in
theorem out_calls {w : World} {B h : Nat} {tos : List Nat} {fs : List Bytes} {vt vl : Value} (n : NetAt w B h tos fs vt vl) (hB : B ≤ w.heap.size) {i : Nat} (hil : i < fs.length) (hlen : fs.length ≤ 1000000) :
    Calls Tryz.prog 25 #[.pointer (some ⟨h, 0, none⟩), .int .i64 i] w (OutOut w B h tos fs vt vl i) := by
  obtain ⟨i0, hi, hz0, hz1, hz2⟩ := info_parts info_term
  obtain ⟨i1, hj, hy0, hy1, hy2⟩ := info_parts info_i4
  have hle := n.len
  have HN := Lib.hid n
  obtain ⟨gl, cl, rfl, hgl1, hgl2, hgl3, hvl2⟩ := row_shape n.l (by omega)
  obtain ⟨g, cf, rfl, hg1, hg2, hg3, hvl1⟩ := row_shape n.to (by omega)
  obtain ⟨hc0, hc0', hf0, hf1'⟩ := n.cells
  have hV := Lib.hid n.own
  have hne := Lib.hid int_net
  have hrow := Lib.hid n.to
  have hone : Hid (∀ u ∈ nums tos, u.oneCell' = true) := fun u hu => by obtain ⟨z, _, rfl⟩ := List.mem_map.1 hu; rfl
  have HB := Lib.hid hB
  clear n hB hg1 hg3 hgl1 hgl3 hvl2
  obtain ⟨L, hL⟩ : ∃ L, tos.length = L := ⟨_, rfl⟩
  have hLi : i < L := by omega
  have hLm : L ≤ 1000000 := by omega
  rw [hL] at hc0 hg2 hvl1 hrow
  have hvl := Lib.hid hvl1
  have HL := Lib.hid hL
  obtain ⟨vs, hvs⟩ : ∃ vs, nums tos = vs := ⟨_, rfl⟩
  rw [hvs] at hrow hone hvl
  have HVs := Lib.hid hvs
  clear hvl1 hL hvs hle
  go_enter Tryz.func25, Tryz.ntmps25
  go_wp2_with fail
  go_cut [] from 4 (fun wc => OutMid w B h tos fs (.slice (some ⟨gl, 0, none⟩) fs.length cl) i wc)
  case first =>
    have hhl : h < w.heap.size := (Array.getElem?_eq_some_iff.1 hV.out).1
    have hV1 : Below w.heap.size w (w.drew.alloc (.cells #[] 3)) := (Below.refl _ w).drew.alloc (Nat.le_refl _) _
    have hcA : (w.alloc (.cells #[] 3)).cell? ⟨h, 0, none⟩ = some (.slice (some ⟨g, 0, none⟩) L cf) := (hV1.cell (p := ⟨h, 0, none⟩) hhl).trans hc0
    have HLit : Hid ((w.drew.alloc (.cells #[] 3)).ownsRow w.heap.size 3 1 (.slice (some ⟨w.heap.size, 0, none⟩) 0 0) 0 []) := World.ownsRow_lit (e := 3) (base := w.heap.size) (size := 1) w.drew #[] 0 (Nat.le_refl _) (by unfold maxLen; omega) rfl
    have hcut := cut_facts (at_ := i) hrow.out hV1
    have HN1' := Lib.hid hcut.1
    have HFar := Lib.hid hcut.2
    have hL1 : Hid ((vs.take i).length = i * 1) := by show _ = _; rw [List.length_take, hvl.out]; omega
    have hL2 : Hid ((vs.drop (i + 1)).length = (L - (i + 1)) * 1) := by show _ = _; rw [List.length_drop, hvl.out]; omega
    have HOne : Hid ((∀ u ∈ vs.take i, u.oneCell' = true) ∧ (∀ u ∈ vs.drop (i + 1), u.oneCell' = true)) := ⟨fun u hu => hone.out u (List.mem_of_mem_take hu), fun u hu => hone.out u (List.mem_of_mem_drop hu)⟩
    have m1 : Hid (0 + i ≤ maxLen ∧ (0 + i) * 8 ≤ 140737488355328 ∧ i + (L - (i + 1)) ≤ maxLen ∧ (i + (L - (i + 1))) * 8 ≤ 140737488355328) := ⟨by unfold maxLen; omega, by omega, by unfold maxLen; omega, by omega⟩
    have m2 : Hid (w.heap.size ≤ (w.drew.alloc (.cells #[] 3)).heap.size) := hV1.size
    have z3 : (i : Int) ≤ (L : Int) := by omega
    have z4 : (i : Int) ≤ (cf : Int) := by omega
    have z5 : (i : Int) + 1 ≤ (L : Int) := by omega
    have z6 : (L : Int) ≤ (cf : Int) := by omega
    have z8 : (0 : Int) ≤ (i : Int) + 1 := by omega
    have z0 : (0 : Int) ≤ (i : Int) := by omega
    have hwr : IntKind.i64.wrap ((i : Int) + 1) = (i : Int) + 1 := by rw [IntKind.wrap_i64]; omega
    have htn : ((i : Int) + 1).toNat = i + 1 := by omega
    have hHN : Hid (cf = i + 1 → vs.drop (i + 1) = []) := fun e => List.drop_of_length_le (by rw [hvl.out]; omega)
    clear hcut hV1
    by_cases hcap' : cf = i + 1
    · have HNil := Lib.hid (hHN.out hcap')
      subst hcap'
      have z9 : (i : Int) ≤ (i : Int) + 1 := by omega
      clear hHN
      go_region_law (first
        | (refine step_append_owned rfl (.tmp 12) (.tmp 19) 33 rfl w.heap.size 3 i1 (.int .i64 0) 1 8 Tryz.underlying33 hj hy0 hy1 hy2 rfl (by decide) v8 i (vs.take i) (by simp [Act.eval, Act.put]) X8.out.1 ⟨g, 0, none⟩ (L - (i + 1)) 0 (vs.drop (i + 1)) (by first | (simp [Act.eval, Act.put]; done) | (simp [Act.eval, Act.put]; omega)) hL2.out (fun j u hu => by rw [HNil.out] at hu; simp at hu) HOne.out.2 m1.out.2.2.1 m1.out.2.2.2 (Nat.le_trans m2.out X8.out.2.size) ?_
           intro v9 w9 hown5 hgrow5
           obtain ⟨A9, c9, rfl⟩ := L5.own_slice hown5
           have X9 := Lib.hid (cut_end hV.out hne.out X8.out ⟨hown5, hgrow5⟩)
           have cc9 := (X9.out.1.cell (p := ⟨h, 0, none⟩) hhl).trans hc0
           have cf9 := (bfrozen X9.out.1 hhl 0).trans hf0
           clear hown5 hgrow5)
        | (refine step_append_owned rfl (.tmp 5) (.tmp 11) 33 rfl w.heap.size 3 i1 (.int .i64 0) 1 8 Tryz.underlying33 hj hy0 hy1 hy2 rfl (by decide) (.slice (some ⟨w.heap.size, 0, none⟩) 0 0) 0 [] (by simp [Act.eval, Act.put]) HLit.out ⟨g, 0, none⟩ i (i + 1) (vs.take i) (by simp [Act.eval, Act.put]) hL1.out HN1'.out HOne.out.1 m1.out.1 m1.out.2.1 m2.out ?_
           intro v8 w8 hown4 hgrow4
           have X8 : Hid (w8.ownsRow w.heap.size 3 1 v8 i (vs.take i) ∧ (w.drew.alloc (.cells #[] 3)).grownBy w8 (some w.heap.size)) := ⟨by rw [Nat.zero_add] at hown4; exact hown4, hgrow4⟩
           have cc8 : w8.cell? ⟨h, 0, none⟩ = some (.slice (some ⟨g, 0, none⟩) L (i + 1)) := ((((Below.refl w.heap.size w).drew.alloc (Nat.le_refl _) _).grown hgrow4 (by rw [World.size_alloc]; exact Nat.le_succ _) (fun k e => by cases e; exact Nat.le_refl _)).cell (p := ⟨h, 0, none⟩) hhl).trans hc0
           clear hown4 hgrow4))
      all_goals
        have HMid : Hid (OutMid w B h tos fs (.slice (some ⟨gl, 0, none⟩) fs.length cl) i (w9.setCell ⟨h, 0, none⟩ (.slice A9 (i + (L - (i + 1))) c9))) := by
          obtain ⟨x1, x2, x3⟩ := X9.out.2 0
          rw [← HVs.out] at x2
          exact out_mid HN.out HB.out HL.out hLi (by omega) x1 x2 x3
        have e0 : L - (i + 1) = 0 := by omega
        rw [e0, Nat.add_zero] at HMid
        clear e0
        go_wp2
        go_meet
        case rel => exact HMid.out
    · clear hHN
      go_region_law (first
        | (refine step_append_owned rfl (.tmp 12) (.tmp 19) 33 rfl w.heap.size 3 i1 (.int .i64 0) 1 8 Tryz.underlying33 hj hy0 hy1 hy2 rfl (by decide) v8 i (vs.take i) (by simp [Act.eval, Act.put]) X8.out.1 ⟨g, i + 1, none⟩ (L - (i + 1)) (cf - (i + 1)) (vs.drop (i + 1)) (by first | (simp [Act.eval, Act.put]; done) | (simp [Act.eval, Act.put]; omega)) hL2.out (HFar.out _ X8.out.2) HOne.out.2 m1.out.2.2.1 m1.out.2.2.2 (Nat.le_trans m2.out X8.out.2.size) ?_
           intro v9 w9 hown5 hgrow5
           obtain ⟨A9, c9, rfl⟩ := L5.own_slice hown5
           have X9 := Lib.hid (cut_end hV.out hne.out X8.out ⟨hown5, hgrow5⟩)
           have cc9 := (X9.out.1.cell (p := ⟨h, 0, none⟩) hhl).trans hc0
           have cf9 := (bfrozen X9.out.1 hhl 0).trans hf0
           clear hown5 hgrow5)
        | (refine step_append_owned rfl (.tmp 5) (.tmp 11) 33 rfl w.heap.size 3 i1 (.int .i64 0) 1 8 Tryz.underlying33 hj hy0 hy1 hy2 rfl (by decide) (.slice (some ⟨w.heap.size, 0, none⟩) 0 0) 0 [] (by simp [Act.eval, Act.put]) HLit.out ⟨g, 0, none⟩ i cf (vs.take i) (by simp [Act.eval, Act.put]) hL1.out HN1'.out HOne.out.1 m1.out.1 m1.out.2.1 m2.out ?_
           intro v8 w8 hown4 hgrow4
           have X8 : Hid (w8.ownsRow w.heap.size 3 1 v8 i (vs.take i) ∧ (w.drew.alloc (.cells #[] 3)).grownBy w8 (some w.heap.size)) := ⟨by rw [Nat.zero_add] at hown4; exact hown4, hgrow4⟩
           have cc8 : w8.cell? ⟨h, 0, none⟩ = some (.slice (some ⟨g, 0, none⟩) L cf) := ((((Below.refl w.heap.size w).drew.alloc (Nat.le_refl _) _).grown hgrow4 (by rw [World.size_alloc]; exact Nat.le_succ _) (fun k e => by cases e; exact Nat.le_refl _)).cell (p := ⟨h, 0, none⟩) hhl).trans hc0
           clear hown4 hgrow4))
      all_goals
        have HMid : Hid (OutMid w B h tos fs (.slice (some ⟨gl, 0, none⟩) fs.length cl) i (w9.setCell ⟨h, 0, none⟩ (.slice A9 (i + (L - (i + 1))) c9))) := by
          obtain ⟨x1, x2, x3⟩ := X9.out.2 0
          rw [← HVs.out] at x2
          exact out_mid HN.out HB.out HL.out hLi (by omega) x1 x2 x3
        go_wp2
        go_meet
        case rel => exact HMid.out
  case rest =>
    obtain ⟨vt', m1, m2, m3, m4, m5⟩ := hcut
    have hV' := Lib.hid m1
    have HM2 := Lib.hid m2
    have HM4 := Lib.hid m4
    have HM5 := Lib.hid m5
    have hrow' := Lib.hid m3
    have hc' : wc.cell? ⟨h, 1, none⟩ = some (.slice (some ⟨gl, 0, none⟩) fs.length cl) := by simp only [World.cell?]; rw [m1]; rfl
    have hf' : wc.frozen? ⟨h, 1, none⟩ = false := by simp only [World.frozen?]; rw [m1]; simp
    clear m1 m2 m3 m4 m5 hc0 hf0 hV hne hrow hone hvl HVs HL hLi hLm hg2
    clear hc0' hf1'
    have hV := hV'
    have hrow := hrow'
    have hc0 := hc'
    have hf0 := hf'
    clear hV' hrow' hc' hf'
    have hne := Lib.hid term_net
    have hone : Hid (∀ u ∈ strs fs, u.oneCell' = true) := fun u hu => by obtain ⟨z, _, rfl⟩ := List.mem_map.1 hu; rfl
    obtain ⟨M, hM⟩ : ∃ M, fs.length = M := ⟨_, rfl⟩
    have hLi : i < M := by omega
    have hLm : M ≤ 1000000 := by omega
    have hg2 : M ≤ cl := by omega
    have hvl : Hid ((strs fs).length = M) := by show _ = _; rw [← hM]; simp [strs]
    rw [hM] at hc0 hrow
    have HM := Lib.hid hM
    obtain ⟨us, hus⟩ : ∃ us, strs fs = us := ⟨_, rfl⟩
    rw [hus] at hrow hone hvl
    have HUs := Lib.hid hus
    clear hM hus hlen hgl2
    have hhl : h < wc.heap.size := (Array.getElem?_eq_some_iff.1 hV.out).1
    have hV1 : Below wc.heap.size wc (wc.drew.alloc (.cells #[] 46)) := (Below.refl _ wc).drew.alloc (Nat.le_refl _) _
    have hcA : (wc.alloc (.cells #[] 46)).cell? ⟨h, 1, none⟩ = some (.slice (some ⟨gl, 0, none⟩) M cl) := (hV1.cell (p := ⟨h, 1, none⟩) hhl).trans hc0
    have HLit : Hid ((wc.drew.alloc (.cells #[] 46)).ownsRow wc.heap.size 46 1 (.slice (some ⟨wc.heap.size, 0, none⟩) 0 0) 0 []) := World.ownsRow_lit (e := 46) (base := wc.heap.size) (size := 1) wc.drew #[] 0 (Nat.le_refl _) (by unfold maxLen; omega) rfl
    have hcut := cut_facts (at_ := i) hrow.out hV1
    have HN1' := Lib.hid hcut.1
    have HFar := Lib.hid hcut.2
    have hL1 : Hid ((us.take i).length = i * 1) := by show _ = _; rw [List.length_take, hvl.out]; omega
    have hL2 : Hid ((us.drop (i + 1)).length = (M - (i + 1)) * 1) := by show _ = _; rw [List.length_drop, hvl.out]; omega
    have HOne : Hid ((∀ u ∈ us.take i, u.oneCell' = true) ∧ (∀ u ∈ us.drop (i + 1), u.oneCell' = true)) := ⟨fun u hu => hone.out u (List.mem_of_mem_take hu), fun u hu => hone.out u (List.mem_of_mem_drop hu)⟩
    have m1 : Hid (0 + i ≤ maxLen ∧ (0 + i) * 16 ≤ 140737488355328 ∧ i + (M - (i + 1)) ≤ maxLen ∧ (i + (M - (i + 1))) * 16 ≤ 140737488355328) := ⟨by unfold maxLen; omega, by omega, by unfold maxLen; omega, by omega⟩
    have m2 : Hid (wc.heap.size ≤ (wc.drew.alloc (.cells #[] 46)).heap.size) := hV1.size
    have z3 : (i : Int) ≤ (M : Int) := by omega
    have z4 : (i : Int) ≤ (cl : Int) := by omega
    have z5 : (i : Int) + 1 ≤ (M : Int) := by omega
    have z6 : (M : Int) ≤ (cl : Int) := by omega
    have z8 : (0 : Int) ≤ (i : Int) + 1 := by omega
    have z0 : (0 : Int) ≤ (i : Int) := by omega
    have hwr : IntKind.i64.wrap ((i : Int) + 1) = (i : Int) + 1 := by rw [IntKind.wrap_i64]; omega
    have htn : ((i : Int) + 1).toNat = i + 1 := by omega
    have hHN : Hid (cl = i + 1 → us.drop (i + 1) = []) := fun e => List.drop_of_length_le (by rw [hvl.out]; omega)
    clear hcut hV1
    by_cases hcap' : cl = i + 1
    · have HNil := Lib.hid (hHN.out hcap')
      subst hcap'
      have z9 : (i : Int) ≤ (i : Int) + 1 := by omega
      clear hHN
      go_wp2
      go_region_law (first
        | (refine step_append_owned rfl (.tmp 31) (.tmp 38) 34 rfl wc.heap.size 46 i0 (.string ⟨#[]⟩) 1 16 Tryz.underlying34 hi hz0 hz1 hz2 rfl (by decide) v8 i (us.take i) (by simp [Act.eval, Act.put]) X8.out.1 ⟨gl, 0, none⟩ (M - (i + 1)) 0 (us.drop (i + 1)) (by first | (simp [Act.eval, Act.put]; done) | (simp [Act.eval, Act.put]; omega)) hL2.out (fun j u hu => by rw [HNil.out] at hu; simp at hu) HOne.out.2 m1.out.2.2.1 m1.out.2.2.2 (Nat.le_trans m2.out X8.out.2.size) ?_
           intro v9 w9 hown5 hgrow5
           obtain ⟨A9, c9, rfl⟩ := L5.own_slice hown5
           have X9 := Lib.hid (cut_end hV.out hne.out X8.out ⟨hown5, hgrow5⟩)
           have cc9 := (X9.out.1.cell (p := ⟨h, 1, none⟩) hhl).trans hc0
           have cf9 := (bfrozen X9.out.1 hhl 1).trans hf0
           clear hown5 hgrow5)
        | (refine step_append_owned rfl (.tmp 24) (.tmp 30) 34 rfl wc.heap.size 46 i0 (.string ⟨#[]⟩) 1 16 Tryz.underlying34 hi hz0 hz1 hz2 rfl (by decide) (.slice (some ⟨wc.heap.size, 0, none⟩) 0 0) 0 [] (by simp [Act.eval, Act.put]) HLit.out ⟨gl, 0, none⟩ i (i + 1) (us.take i) (by simp [Act.eval, Act.put]) hL1.out HN1'.out HOne.out.1 m1.out.1 m1.out.2.1 m2.out ?_
           intro v8 w8 hown4 hgrow4
           have X8 : Hid (w8.ownsRow wc.heap.size 46 1 v8 i (us.take i) ∧ (wc.drew.alloc (.cells #[] 46)).grownBy w8 (some wc.heap.size)) := ⟨by rw [Nat.zero_add] at hown4; exact hown4, hgrow4⟩
           have cc8 : w8.cell? ⟨h, 1, none⟩ = some (.slice (some ⟨gl, 0, none⟩) M (i + 1)) := ((((Below.refl wc.heap.size wc).drew.alloc (Nat.le_refl _) _).grown hgrow4 (by rw [World.size_alloc]; exact Nat.le_succ _) (fun k e => by cases e; exact Nat.le_refl _)).cell (p := ⟨h, 1, none⟩) hhl).trans hc0
           clear hown4 hgrow4))
      all_goals
        have HF : Hid (OutOut w B h tos fs (.slice (some ⟨g, 0, none⟩) tos.length cf) (.slice (some ⟨gl, 0, none⟩) fs.length (i + 1)) i (.returned (.tuple #[])) (w9.setCell ⟨h, 1, none⟩ (.slice A9 (i + (M - (i + 1))) c9))) := by
          obtain ⟨x1, x2, x3⟩ := X9.out.2 1
          rw [← HUs.out] at x2
          exact out_end HN.out HB.out hil (by have := HM.out; omega) hV.out HM2.out HM4.out HM5.out x1 x2 x3
        have e0 : M - (i + 1) = 0 := by omega
        rw [e0, Nat.add_zero] at HF
        clear e0
        go_wp2
        refine bodyPost_end (results_none rfl _ _ _) rfl ?_
        exact HF.out
    · clear hHN
      go_wp2
      go_region_law (first
        | (refine step_append_owned rfl (.tmp 31) (.tmp 38) 34 rfl wc.heap.size 46 i0 (.string ⟨#[]⟩) 1 16 Tryz.underlying34 hi hz0 hz1 hz2 rfl (by decide) v8 i (us.take i) (by simp [Act.eval, Act.put]) X8.out.1 ⟨gl, i + 1, none⟩ (M - (i + 1)) (cl - (i + 1)) (us.drop (i + 1)) (by first | (simp [Act.eval, Act.put]; done) | (simp [Act.eval, Act.put]; omega)) hL2.out (HFar.out _ X8.out.2) HOne.out.2 m1.out.2.2.1 m1.out.2.2.2 (Nat.le_trans m2.out X8.out.2.size) ?_
           intro v9 w9 hown5 hgrow5
           obtain ⟨A9, c9, rfl⟩ := L5.own_slice hown5
           have X9 := Lib.hid (cut_end hV.out hne.out X8.out ⟨hown5, hgrow5⟩)
           have cc9 := (X9.out.1.cell (p := ⟨h, 1, none⟩) hhl).trans hc0
           have cf9 := (bfrozen X9.out.1 hhl 1).trans hf0
           clear hown5 hgrow5)
        | (refine step_append_owned rfl (.tmp 24) (.tmp 30) 34 rfl wc.heap.size 46 i0 (.string ⟨#[]⟩) 1 16 Tryz.underlying34 hi hz0 hz1 hz2 rfl (by decide) (.slice (some ⟨wc.heap.size, 0, none⟩) 0 0) 0 [] (by simp [Act.eval, Act.put]) HLit.out ⟨gl, 0, none⟩ i cl (us.take i) (by simp [Act.eval, Act.put]) hL1.out HN1'.out HOne.out.1 m1.out.1 m1.out.2.1 m2.out ?_
           intro v8 w8 hown4 hgrow4
           have X8 : Hid (w8.ownsRow wc.heap.size 46 1 v8 i (us.take i) ∧ (wc.drew.alloc (.cells #[] 46)).grownBy w8 (some wc.heap.size)) := ⟨by rw [Nat.zero_add] at hown4; exact hown4, hgrow4⟩
           have cc8 : w8.cell? ⟨h, 1, none⟩ = some (.slice (some ⟨gl, 0, none⟩) M cl) := ((((Below.refl wc.heap.size wc).drew.alloc (Nat.le_refl _) _).grown hgrow4 (by rw [World.size_alloc]; exact Nat.le_succ _) (fun k e => by cases e; exact Nat.le_refl _)).cell (p := ⟨h, 1, none⟩) hhl).trans hc0
           clear hown4 hgrow4))
      all_goals
        have HF : Hid (OutOut w B h tos fs (.slice (some ⟨g, 0, none⟩) tos.length cf) (.slice (some ⟨gl, 0, none⟩) fs.length cl) i (.returned (.tuple #[])) (w9.setCell ⟨h, 1, none⟩ (.slice A9 (i + (M - (i + 1))) c9))) := by
          obtain ⟨x1, x2, x3⟩ := X9.out.2 1
          rw [← HUs.out] at x2
          exact out_end HN.out HB.out hil (by have := HM.out; omega) hV.out HM2.out HM4.out HM5.out x1 x2 x3
        go_wp2
        refine bodyPost_end (results_none rfl _ _ _) rfl ?_
        exact HF.out
end Go.Proofs.YtiodphkmllcjdaaGreat.L7
end
