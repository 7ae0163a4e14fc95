/- The statements' own net inside the struct 'both': frames that lie about; add. The statements' own comes: the frame at a place comes at its end. The statements' acts, as they lie in memory. (Made by tools/genacts.py.) -/
import Derived.Test.YtiodphkmllcjdaaGreatLkD
import Derived.Test.YtiodphkmllcjdaaGreatLkNO
import Derived.Deep.AppendLies
section
namespace Go.Proofs.YtiodphkmllcjdaaGreat.L7.E
open Go.ChangeShapes Go.WideShapes Go.ChangeAt Go.RowKit L6

/-- What lies in the struct ahead of the net. -/
structure Hdr where
  p0 : Value
  p1 : Value
  p2 : Value
  p3 : Value
def nums (l : List Nat) : List Value := l.map fun (n : Nat) => .int .i64 (n : Int)
theorem nums_len (l : List Nat) : (nums l).length = l.length := by simp [nums]
structure NetAt (hd : Hdr) (W : World) (B h : Nat) (tos : List Nat) (fs : List Bytes) (vt vl : Value) : Prop where
  own : W.heap[h]? = some (.cells #[hd.p0, hd.p1, hd.p2, hd.p3, vt, vl] 38 (0, 0))
  base : B ≤ h
  to : W.ownsRow B 3 1 vt tos.length (nums tos)
  l : W.ownsRow B 46 1 vl fs.length (strs fs)
  len : tos.length = fs.length
def NIn (h : Nat) (vt vl : Value) (k : Nat) : Prop := k = h ∨ vt.ownBlock = some k ∨ vl.ownBlock = some k
theorem NetAt.lt {hd : Hdr} {W : World} {B h : Nat} {tos : List Nat} {fs : List Bytes} {vt vl : Value} (n : NetAt hd W B h tos fs vt vl) : h < W.heap.size := (Array.getElem?_eq_some_iff.1 n.own).1
theorem NetAt.inlt {hd : Hdr} {W : World} {B h : Nat} {tos : List Nat} {fs : List Bytes} {vt vl : Value} (n : NetAt hd W B h tos fs vt vl) {k : Nat} (hk : NIn h vt vl k) : B ≤ k ∧ k < W.heap.size := by
  rcases hk with rfl | e | e
  · exact ⟨n.base, n.lt⟩
  · exact n.to.lt k e
  · exact n.l.lt k e
theorem NetAt.same {hd : Hdr} {W W' : World} {B h : Nat} {tos : List Nat} {fs : List Bytes} {vt vl : Value} (n : NetAt hd W B h tos fs vt vl) (hs : ∀ k, NIn h vt vl k → W'.heap[k]? = W.heap[k]?) : NetAt hd W' B h tos fs vt vl :=
  ⟨(hs h (.inl rfl)).trans n.own, n.base, L5.own_same n.to (fun q e => hs q (.inr (.inl e))), L5.own_same n.l (fun q e => hs q (.inr (.inr e))), n.len⟩
theorem NetAt.below {hd : Hdr} {W W' : World} {B h : Nat} {tos : List Nat} {fs : List Bytes} {vt vl : Value} (n : NetAt hd W B h tos fs vt vl) (hb : Below W.heap.size W W') : NetAt hd W' B h tos fs vt vl := n.same fun k hk => hb.block k (n.inlt hk).2
theorem NetAt.cells {hd : Hdr} {W : World} {B h : Nat} {tos : List Nat} {fs : List Bytes} {vt vl : Value} (n : NetAt hd W B h tos fs vt vl) : W.cell? ⟨h, 4, none⟩ = some vt ∧ W.cell? ⟨h, 5, none⟩ = some vl ∧ W.frozen? ⟨h, 4, none⟩ = false ∧ W.frozen? ⟨h, 5, none⟩ = false := by
  have e := n.own
  refine ⟨?_, ?_, ?_, ?_⟩
  · simp only [World.cell?]; rw [e]; rfl
  · simp only [World.cell?]; rw [e]; rfl
  · simp only [World.frozen?]; rw [e]; simp
  · simp only [World.frozen?]; rw [e]; simp
theorem NetAt.apart {hd : Hdr} {W : World} {B h : Nat} {tos : List Nat} {fs : List Bytes} {vt vl : Value} (n : NetAt hd W B h tos fs vt vl) : vt.ownBlock ≠ some h ∧ vl.ownBlock ≠ some h ∧ (∀ q, vt.ownBlock = some q → vl.ownBlock ≠ some q) := by
  have k1 : 3 ≠ 38 := by decide
  have k2 : 46 ≠ 38 := by decide
  have key : ∀ {v : Value} {e : TypeId} {m : Nat} {xs : List Value}, W.ownsRow B e 1 v m xs → e ≠ 38 → v.ownBlock ≠ some h := by
    intro v e m xs hr he e'
    rcases hr.2 with ⟨rfl, _⟩ | ⟨q, cap, cur, rfl, _, h2, _⟩
    · cases e'
    · obtain rfl : q = h := by cases e'; rfl
      have := n.own
      rw [h2] at this
      simp at this
      exact he this.2
  exact ⟨key n.to k1, key n.l k2, own_apart n.to n.l (fun e => term_int e.symm)⟩
theorem blk_setj {W : World} {b j : Nat} {t : TypeId} {cs : Array Value} (h : W.heap[b]? = some (.cells cs t (0, 0))) (v : Value) : (W.setCell ⟨b, j, none⟩ v).heap[b]? = some (.cells (cs.setIfInBounds j v) t (0, 0)) := by
  obtain ⟨hlt, hk⟩ := Array.getElem?_eq_some_iff.1 h
  show (W.heap.modify b _)[b]? = _
  rw [Array.getElem?_eq_getElem (by rw [Array.size_modify]; exact hlt), Array.getElem_modify_self, hk]
  rfl
theorem pair_set0 (p q r s a b v : Value) : (#[p, q, r, s, a, b] : Array Value).setIfInBounds 4 v = #[p, q, r, s, v, b] := rfl
theorem pair_set1 (p q r s a b v : Value) : (#[p, q, r, s, a, b] : Array Value).setIfInBounds 5 v = #[p, q, r, s, a, v] := rfl

theorem row_not {W : World} {B h : Nat} {e t : TypeId} {v : Value} {m : Nat} {xs : List Value} {cs : Array Value} (hr : W.ownsRow B e 1 v m xs) (hb : W.heap[h]? = some (.cells cs t (0, 0))) (he : e ≠ t) : v.ownBlock ≠ some h := by
  intro e'
  rcases hr.2 with ⟨rfl, _⟩ | ⟨q, cap, cur, rfl, _, h2, _⟩
  · cases e'
  · obtain rfl : q = h := by cases e'; rfl
    rw [h2] at hb
    cases hb
    exact he rfl
theorem Only.grows {F : Nat → Prop} {w W W' : World} {row : Option Nat} (h : Only F w W) (hg : W.grownBy W' row) (hr : ∀ k, row = some k → F k ∨ w.heap.size ≤ k) : Only F w W' :=
  ⟨hg.os.trans h.os, hg.tape.trans h.tape, hg.output.trans h.output, Nat.le_trans h.size hg.size, fun k hk hn => (hg.block k (Nat.lt_of_lt_of_le hk h.size) (fun e => by rcases hr k e.symm with c | c; exact hn c; omega)).trans (h.block k hk hn)⟩
theorem int_net : 3 ≠ 38 := by decide
theorem term_net : 46 ≠ 38 := by decide
/-- What is added: what is no empty text. -/
def laid (zs : List Bytes) : List Bytes := zs.filter (fun z => !z.isEmpty)
theorem laid_take {zs : List Bytes} {i : Nat} {z : Bytes} (h : zs[i]? = some z) : laid (zs.take (i + 1)) = laid (zs.take i) ++ (if z = [] then [] else [z]) := by
  rw [List.take_add_one, h]
  unfold laid
  simp only [Option.toList_some, List.filter_append]
  congr 1
  cases z <;> simp
def tosOf (to : Nat) (zs : List Bytes) : List Nat := (laid zs).map fun _ => to
def AddedOut (hd : Hdr) (w : World) (B h : Nat) (tos : List Nat) (fs : List Bytes) (vt vl : Value) (to : Nat) (zs : List Bytes) (e : Ending) (w' : World) : Prop :=
  e = .returned (.tuple #[]) ∧ ∃ vt' vl', NetAt hd w' B h (tos ++ tosOf to zs) (fs ++ laid zs) vt' vl' ∧ Only (NIn h vt vl) w w' ∧ (∀ q, NIn h vt' vl' q → NIn h vt vl q ∨ w.heap.size ≤ q)
def AddGo (hd : Hdr) (w : World) (B h : Nat) (tos : List Nat) (fs : List Bytes) (vt vl : Value) (to : Nat) (zs : List Bytes) (k : Nat) (v6 : Value) (wr : World) : Prop :=
  ∃ (i : Nat) (vt' vl' : Value), k + i = zs.length ∧ v6 = .int .i64 i ∧ NetAt hd wr B h (tos ++ tosOf to (zs.take i)) (fs ++ laid (zs.take i)) vt' vl' ∧ Only (NIn h vt vl) w wr ∧ (∀ q, NIn h vt' vl' q → NIn h vt vl q ∨ w.heap.size ≤ q)
theorem info_i4 : (Tryz.prog.info? 3).map (fun i => (i.zero, i.size, i.bytes)) = some (some (.int .i64 0), 1, 8) := by kernel_rfl
set_option maxRecDepth 100000 in
set_option maxHeartbeats 4000000 in
theorem add_calls {hd : Hdr} {w : World} {B h : Nat} {tos : List Nat} {fs : List Bytes} {vt vl : Value} (n : NetAt hd w B h tos fs vt vl) (hB : B ≤ w.heap.size) (to : Nat) {Az : Option Addr} {cz : Nat} (zs : List Bytes) (hz : SRow w (.slice Az zs.length cz) (ba zs)) (hzn : ∀ ad, Az = some ad → ¬ NIn h vt vl ad.block) (hlen : fs.length + zs.length ≤ 1000000) :
    Calls Tryz.prog 21 #[.pointer (some ⟨h, 4, none⟩), .int .i64 to, .slice Az zs.length cz] w (AddedOut hd w B h tos fs vt vl to zs) := by
  obtain ⟨i0, hi, hz0, hz1, hz2⟩ := info_parts info_term
  obtain ⟨i1, hj, hy0, hy1, hy2⟩ := info_parts info_i4
  have HZ : Hid (∀ j x, zs[j]? = some x → ∃ ad : Addr, Az = some ad ∧ ad.block < w.heap.size ∧ w.cell? (ad.add j) = some (.string ⟨x.toArray⟩)) := fun j x hx => by
    obtain ⟨A, c, e, k⟩ := hz
    simp only [Value.slice.injEq] at e
    obtain ⟨rfl, _, _⟩ := e
    exact k j _ (by simp [ba, hx])
  have HZn := Lib.hid hzn
  have H0 : Hid (AddGo hd w B h tos fs vt vl to zs zs.length (.int .i64 0) w) := ⟨0, vt, vl, by omega, rfl, by simpa [tosOf, laid] using n, Only.refl _ _, fun q hq => .inl hq⟩
  have hl := n.len
  clear n hz hzn
  go_enter Tryz.func21, Tryz.ntmps21
  go_wp2
  go_loopg [6] zs.length (fun k v6 wr => AddGo hd w B h tos fs vt vl to zs k v6 wr)
  case atStart => exact H0.out
  case round =>
    obtain ⟨i, vt', vl', hk, rfl, hN, hO, hIn⟩ := hrel
    by_cases hlt : i < zs.length
    · obtain ⟨z, hzi⟩ : ∃ z, zs[i]? = some z := ⟨_, List.getElem?_eq_getElem hlt⟩
      obtain ⟨ad, rfl, hadb, hadc⟩ := HZ.out i z hzi
      have hadn := HZn.out ad rfl
      have c1 : wr.cell? (ad.add i) = some (.string ⟨z.toArray⟩) := (World.cell?_of_block (w := w) (by rw [L6.addr_block]; exact hO.block _ hadb hadn)).trans hadc
      have j1 : (i : Int) < (zs.length : Int) := by omega
      have j2 : (0 : Int) ≤ (i : Int) := by omega
      have hi6 : i ≤ 1000000 := by omega
      have hmeas := Lib.hid (show zs.length - (i + 1) < gk by omega)
      have hmeq := Lib.hid (show zs.length - (i + 1) + (i + 1) = zs.length by omega)
      have htk := laid_take hzi
      have HN := Lib.hid hN
      have HO := Lib.hid hO
      have HIn := Lib.hid hIn
      clear hN hO hIn hk hadc hzi H0
      by_cases hz0' : z = []
      · subst hz0'
        rw [if_pos rfl, List.append_nil] at htk
        have HF : Hid (AddGo hd w B h tos fs vt vl to zs (zs.length - (i + 1)) (.int .i64 ((i : Int) + 1)) wr) := ⟨i + 1, vt', vl', hmeq.out, rfl, by unfold tosOf; rw [htk]; exact HN.out, HO.out, HIn.out⟩
        clear HN HO HIn htk
        go_wp2
        go_roundg (zs.length - (i + 1))
        case measure => exact hmeas.out
        case rel => exact HF.out
      · rw [if_neg hz0'] at htk
        have hze : (z == []) = false := by simpa using hz0'
        have hN := HN.out
        obtain ⟨m0, m1, mf0, mf1⟩ := hN.cells
        obtain ⟨p1, p2, p3⟩ := hN.apart
        have hhl := hN.lt
        have hBr : B ≤ wr.heap.size := Nat.le_trans hB HO.out.size
        have hln : (tos ++ tosOf to (zs.take i)).length ≤ 1000000 := by
          have h1 : (laid (zs.take i)).length ≤ i := by unfold laid; refine Nat.le_trans (List.length_filter_le _ _) ?_; simp; omega
          have h2 : (tosOf to (zs.take i)).length = (laid (zs.take i)).length := by unfold tosOf; simp
          rw [List.length_append, h2]
          omega
        have hln2 : (fs ++ laid (zs.take i)).length ≤ 1000000 := by rw [← hN.len]; exact hln
        generalize hts : tos ++ tosOf to (zs.take i) = ts at *
        generalize hff : fs ++ laid (zs.take i) = ff at *
        have HT : Hid (ts ++ [to] = tos ++ tosOf to (zs.take (i + 1)) ∧ ff ++ [z] = fs ++ laid (zs.take (i + 1))) := by
          rw [← hts, ← hff]
          unfold tosOf
          rw [htk]
          exact ⟨by simp, by simp⟩
        have HRT := Lib.hid hN.to
        have HRL := Lib.hid hN.l
        -- behind the first append
        have HA1 : Hid (∀ v3 w3, w3.ownsRow B 3 1 v3 (ts.length + 1) (nums ts ++ [.int .i64 (to : Int)]) → (wr.alloc (.cells #[.int .i64 (to : Int)] 3)).grownBy w3 vt'.ownBlock → (v3.ownBlock = vt'.ownBlock ∨ v3.ownBlock = some (wr.alloc (.cells #[.int .i64 (to : Int)] 3)).heap.size) →
            w3.cell? ⟨h, 4, none⟩ = some vt' ∧ w3.frozen? ⟨h, 4, none⟩ = false ∧ ∀ V2, w3.setCell ⟨h, 4, none⟩ v3 = V2 →
              V2.heap[h]? = some (.cells #[hd.p0, hd.p1, hd.p2, hd.p3, v3, vl'] 38 (0, 0)) ∧ V2.ownsRow B 3 1 v3 (ts.length + 1) (nums ts ++ [.int .i64 (to : Int)]) ∧ V2.ownsRow B 46 1 vl' ff.length (strs ff) ∧ Only (NIn h vt vl) w V2 ∧ V2.cell? (ad.add i) = some (.string ⟨z.toArray⟩) ∧ wr.heap.size ≤ V2.heap.size ∧
              (∀ q, v3.ownBlock = some q → NIn h vt vl q ∨ w.heap.size ≤ q)) := fun v3 w3 k1 k2 k3 => by
          have k4 := L5.grow_trans (World.grownBy_alloc wr (.cells #[.int .i64 (to : Int)] 3) _) k2
          have o3 : w3.heap[h]? = some (.cells #[hd.p0, hd.p1, hd.p2, hd.p3, vt', vl'] 38 (0, 0)) := (k4.block h hhl (fun e => p1 e.symm)).trans hN.own
          have r3 := own_grown HRL.out k4 (fun q e e' => p3 q e' e)
          have hv3 := row_not k1 o3 int_net
          refine ⟨by simp only [World.cell?]; rw [o3]; rfl, by simp only [World.frozen?]; rw [o3]; simp, fun V2 hV2 => ?_⟩
          have kk : ∀ q, q ≠ h → V2.heap[q]? = w3.heap[q]? := fun q hq => by rw [← hV2]; exact Below.heap_setCell _ _ _ _ (by show q ≠ h; exact hq)
          have oo : Only (NIn h vt vl) w V2 := by
            rw [← hV2]
            exact (HO.out.grows k4 (fun k e => HIn.out k (.inr (.inl e)))).setCell (.inl (.inl rfl)) _
          refine ⟨?_, L5.own_same k1 (fun q e => kk q (fun e' => hv3 (by rw [e, e']))), L5.own_same r3 (fun q e => kk q (fun e' => p2 (by rw [e, e']))), oo, ?_, ?_, ?_⟩
          · have := blk_setj (j := 4) o3 v3
            rw [pair_set0] at this
            rw [← hV2]
            exact this
          · exact (World.cell?_of_block (w := w) (by rw [L6.addr_block]; exact oo.block _ hadb hadn)).trans ((World.cell?_of_block (w := w) (by rw [L6.addr_block]; exact HO.out.block _ hadb hadn)).symm.trans c1)
          · have h1 := k4.size
            have : V2.heap.size = w3.heap.size := by rw [← hV2]; simp
            omega
          · intro q e
            rcases k3 with k3 | k3
            · exact HIn.out q (.inr (.inl (by rw [← k3]; exact e)))
            · right
              rw [k3] at e
              cases e
              have := HO.out.size
              simp
              omega
        -- behind the second append
        have HA2 : Hid (∀ v3 V2, V2.heap[h]? = some (.cells #[hd.p0, hd.p1, hd.p2, hd.p3, v3, vl'] 38 (0, 0)) → V2.ownsRow B 3 1 v3 (ts.length + 1) (nums ts ++ [.int .i64 (to : Int)]) → V2.ownsRow B 46 1 vl' ff.length (strs ff) → Only (NIn h vt vl) w V2 → (∀ q, v3.ownBlock = some q → NIn h vt vl q ∨ w.heap.size ≤ q) →
            ∀ g cc w6, w6.ownsRow B 46 1 (.slice (some ⟨g, 0, none⟩) (ff.length + 1) cc) (ff.length + 1) (strs ff ++ [.string ⟨z.toArray⟩]) → (V2.drew.alloc (.cells #[.string ⟨z.toArray⟩] 46)).grownBy w6 vl'.ownBlock → (vl'.ownBlock = some g ∨ g = V2.heap.size + 1) →
              w6.cell? ⟨h, 5, none⟩ = some vl' ∧ w6.frozen? ⟨h, 5, none⟩ = false ∧ AddGo hd w B h tos fs vt vl to zs (zs.length - (i + 1)) (.int .i64 ((i : Int) + 1)) (w6.setCell ⟨h, 5, none⟩ (.slice (some ⟨g, 0, none⟩) (ff.length + 1) cc))) := fun v3 V2 a1 a2 a3 a4 a5 g cc w6 k1 k2 k3 => by
          have hhl2 : h < V2.heap.size := (Array.getElem?_eq_some_iff.1 a1).1
          have bA : V2.grownBy (V2.drew.alloc (.cells #[.string ⟨z.toArray⟩] 46)) vl'.ownBlock := L5.grow_trans (w := V2.drew) ⟨rfl, rfl, rfl, Nat.le_refl _, fun _ _ _ => rfl⟩ (World.grownBy_alloc V2.drew (.cells #[.string ⟨z.toArray⟩] 46) _)
          have k4 := L5.grow_trans bA k2
          have hvl := row_not a3 a1 term_net
          have o6 : w6.heap[h]? = some (.cells #[hd.p0, hd.p1, hd.p2, hd.p3, v3, vl'] 38 (0, 0)) := (k4.block h hhl2 (fun e => hvl e.symm)).trans a1
          have r6 := own_grown a2 k4 (fun q e e' => own_apart a3 a2 term_int q e' e)
          have hv6 := row_not k1 o6 term_net
          have hv3 := row_not a2 a1 int_net
          refine ⟨by simp only [World.cell?]; rw [o6]; rfl, by simp only [World.frozen?]; rw [o6]; simp, i + 1, v3, .slice (some ⟨g, 0, none⟩) (ff.length + 1) cc, hmeq.out, rfl, ⟨?_, HN.out.base, ?_, ?_, ?_⟩, ?_, ?_⟩
          · have := blk_setj (j := 5) o6 (.slice (some ⟨g, 0, none⟩) (ff.length + 1) cc)
            rw [pair_set1] at this
            exact this
          · rw [← HT.out.1, List.length_append]
            have e : nums (ts ++ [to]) = nums ts ++ [.int .i64 (to : Int)] := by simp [nums]
            rw [e]
            exact L5.own_same r6 (fun q e => Below.heap_setCell _ _ _ _ (by show q ≠ h; intro e'; exact hv3 (by rw [e, e'])))
          · rw [← HT.out.2, List.length_append]
            have e : strs (ff ++ [z]) = strs ff ++ [.string ⟨z.toArray⟩] := by simp [strs]
            rw [e]
            exact L5.own_same k1 (fun q e => Below.heap_setCell _ _ _ _ (by show q ≠ h; intro e'; exact hv6 (by rw [e, e'])))
          · rw [← HT.out.1, ← HT.out.2, List.length_append, List.length_append, HN.out.len]
            rfl
          · exact (a4.grows k4 (fun k e => HIn.out k (.inr (.inr e)))).setCell (.inl (.inl rfl)) _
          · intro q hq
            rcases hq with e | e | e
            · exact .inl (.inl e)
            · exact a5 q e
            · rcases k3 with k3 | k3
              · exact HIn.out q (.inr (.inr (by rw [k3]; exact e)))
              · right
                cases e
                have := a4.size
                show w.heap.size ≤ g
                omega
        clear hN p1 p2 p3 hts hff htk hhl
        go_wp2_with (at_builtin; refine wpList_append_own_at _ rfl _ _ 33 rfl B 3 i1 _ 1 8 Tryz.underlying33 hj hy0 hy1 hy2 rfl (by decide) _ _ _ rfl (HRT.out.alloc _) ⟨wr.heap.size, 0, none⟩ 1 1 [.int .i64 (to : Int)] rfl rfl (cell_one_new _ _ _) (by simp [Value.oneCell']) (by unfold maxLen; omega) (by omega) (by simp; omega) ?_; intro v3 w3 hown' hgrow hnil hat; obtain ⟨A3, c3, rfl⟩ := L5.own_slice hown'; obtain ⟨n0, nf0, HN2⟩ := HA1.out _ w3 hown' hgrow hat; obtain ⟨V2, hV2⟩ : ∃ V2, w3.setCell ⟨h, 4, none⟩ (.slice A3 (ts.length + 1) c3) = V2 := ⟨_, rfl⟩; have HV := Lib.hid (HN2 V2 hV2); have e1 : V2.cell? ⟨h, 5, none⟩ = some vl' := (by have := HV.out.1; simp only [World.cell?]; rw [this]; rfl); have e2 := HV.out.2.2.2.2.1; clear hown' hgrow hnil hat HN2)
        clear HA1 c1 m0 m1 mf0 mf1
        have HR5 : Hid ((V2.drew.alloc (.cells #[.string ⟨z.toArray⟩] 46)).ownsRow B 46 1 vl' ff.length (strs ff)) := L5.own_below HV.out.2.2.1 ((Below.refl _ V2).drew.alloc (Nat.le_refl _) _)
        have HNews : Hid (∀ (j : Nat) (u : Value), [(Value.string ⟨z.toArray⟩)][j]? = some u → (V2.drew.alloc (.cells #[.string ⟨z.toArray⟩] 46)).cell? ((⟨V2.heap.size, 0, none⟩ : Addr).add j) = some u) :=
          World.news_of_block (cs := #[.string ⟨z.toArray⟩]) (t := 46) (fr := (0, 0)) (heap_alloc_new V2.drew _)
        have hzA : (V2.drew.alloc (.cells #[.string ⟨z.toArray⟩] 46)).heap.size = V2.heap.size + 1 := by rw [World.size_alloc]; rfl
        have hBA : B ≤ (V2.drew.alloc (.cells #[.string ⟨z.toArray⟩] 46)).heap.size := by have := HV.out.2.2.2.2.2.1; omega
        have HEnd := Lib.hid (HA2.out _ V2 HV.out.1 HV.out.2.1 HV.out.2.2.1 HV.out.2.2.2.1 HV.out.2.2.2.2.2.2)
        have e3 : (V2.alloc (.cells #[.string ⟨z.toArray⟩] 46)).cell? ⟨h, 5, none⟩ = some vl' := (((Below.refl V2.heap.size V2).alloc (Nat.le_refl _) _).cell (p := ⟨h, 5, none⟩) (Array.getElem?_eq_some_iff.1 HV.out.1).1).trans e1
        clear HA2 HV
        go_wp2
        go_region_law (first
          | (refine step_append_lies _ rfl (.tmp 32) (.tmp 37) 34 rfl B 46 i0 (.string ⟨#[]⟩) 1 16 Tryz.underlying34 hi hz0 hz1 hz2 rfl (by decide) vl' ff.length (strs ff) (by simp [Act.eval]) HR5.out ⟨V2.heap.size, 0, none⟩ 1 1 [.string ⟨z.toArray⟩] (by simp [Act.eval]) rfl HNews.out (by simp [Value.oneCell']) (by decide) (by unfold maxLen; omega) (by omega) hBA (V2.heap.size + 1) hzA ?_
             intro gg cc w6 k1 k2 k3 k4
             obtain ⟨j4, jf, jr⟩ := HEnd.out gg cc w6 k1 k2 k3
             have HJ := Lib.hid jr
             clear k1 k2 k3 k4 jr))
        all_goals
          clear HEnd HNews HR5
          go_wp2
          go_roundg (zs.length - (i + 1))
          case measure => exact hmeas.out
          case rel => exact HJ.out
    · have j1 : ¬ (i : Int) < (zs.length : Int) := by omega
      have HF : Hid (AddedOut hd w B h tos fs vt vl to zs (.returned (.tuple #[])) wr) := by
        obtain rfl : i = zs.length := by omega
        rw [List.take_length] at hN
        exact ⟨rfl, vt', vl', hN, hO, hIn⟩
      clear hN hO hIn hk H0
      go_wp2
      refine bodyPost_end (results_none rfl _ _ _) rfl ?_
      exact HF.out
end Go.Proofs.YtiodphkmllcjdaaGreat.L7.E
end

section
namespace Go.Proofs.YtiodphkmllcjdaaGreat.L7
open Go.ChangeShapes Go.WideShapes Go.ChangeAt Go.RowKit L6

def In4 (x : Blk) (k : Nat) : Prop := k = x.g ∨ k = x.q ∨ k = x.c ∨ k = x.b
theorem In4.of {x : Blk} {k : Nat} (h : x.In k) : In4 x k := by
  rcases h with e | e | e
  · exact .inl e
  · exact .inr (.inr (.inl e))
  · exact .inr (.inr (.inr e))
/-- The net, and both ends. -/
structure Net7 (W : World) (B h : Nat) (x y : Blk) (n m : Nat) (s t : St) (tos : List Nat) (fs : List Bytes) (vt vl : Value) : Prop where
  net : NetAt W B h tos fs vt vl
  two : Two7 W x y n m s t
  apart : ∀ k, NIn h vt vl k → ¬ (In4 x k ∨ In4 y k)
def All7 (h : Nat) (vt vl : Value) (x y : Blk) (k : Nat) : Prop := NIn h vt vl k ∨ In2 x y k
theorem Net7.cut {w w1 : World} {B h : Nat} {x y : Blk} {n m : Nat} {s t : St} {tos T : List Nat} {fs F : List Bytes} {vt vl vt' vl' : Value} (z : Net7 w B h x y n m s t tos fs vt vl)
    (o : NetAt w1 B h T F vt' vl') (only : Only (NIn h vt vl) w w1) (hin : ∀ q, NIn h vt' vl' q → NIn h vt vl q ∨ w.heap.size ≤ q) : Net7 w1 B h x y n m s t T F vt' vl' := by
  have l1 := z.two.one.lt
  have l2 := z.two.two.lt
  refine ⟨o, ⟨z.two.one.same (fun k hk => only.block k (by omega) (fun hn => z.apart k hn (.inl hk))), z.two.two.same (fun k hk => only.block k (by omega) (fun hn => z.apart k hn (.inr hk))), z.two.g, z.two.c, z.two.b⟩, fun q hq hx => ?_⟩
  rcases hin q hq with e | e
  · exact z.apart q e hx
  · unfold In4 at hx
    omega
theorem Net7.left {w w1 : World} {B h : Nat} {x y : Blk} {n n' m : Nat} {s s' t : St} {tos : List Nat} {fs : List Bytes} {vt vl : Value} (z : Net7 w B h x y n m s t tos fs vt vl) (e : EndAt w1 x n' s') (o : Only x.In w w1) : Net7 w1 B h x y n' m s' t tos fs vt vl :=
  ⟨z.net.same (fun k hk => o.block k (z.net.inlt hk).2 (fun hi => z.apart k hk (.inl (In4.of hi)))), z.two.left e o, z.apart⟩
theorem Net7.right {w w1 : World} {B h : Nat} {x y : Blk} {n m m' : Nat} {s t t' : St} {tos : List Nat} {fs : List Bytes} {vt vl : Value} (z : Net7 w B h x y n m s t tos fs vt vl) (e : EndAt w1 y m' t') (o : Only y.In w w1) : Net7 w1 B h x y n m' s t' tos fs vt vl :=
  ⟨z.net.same (fun k hk => o.block k (z.net.inlt hk).2 (fun hi => z.apart k hk (.inr (In4.of hi)))), z.two.right e o, z.apart⟩
theorem Net7.below {w w1 : World} {B h : Nat} {x y : Blk} {n m : Nat} {s t : St} {tos : List Nat} {fs : List Bytes} {vt vl : Value} (z : Net7 w B h x y n m s t tos fs vt vl) (b : Below w.heap.size w w1) : Net7 w1 B h x y n m s t tos fs vt vl :=
  ⟨z.net.below b, z.two.below b, z.apart⟩
theorem Only.onto {F G : Nat → Prop} {a b c : World} (h : Only F a b) (k : Only G b c) (hg : ∀ q, G q → F q ∨ a.heap.size ≤ q) : Only F a c :=
  ⟨k.os.trans h.os, k.tape.trans h.tape, k.output.trans h.output, Nat.le_trans h.size k.size, fun q hq hn => (k.block q (Nat.lt_of_lt_of_le hq h.size) (fun e => (hg q e).elim hn (fun e => by omega))).trans (h.block q hq hn)⟩
def Cut7 (w : World) (B h : Nat) (x y : Blk) (n m : Nat) (s t : St) (vt vl : Value) (T : List Nat) (F : List Bytes) (w' : World) : Prop :=
  ∃ vt' vl', Net7 w' B h x y n m s t T F vt' vl' ∧ Only (All7 h vt vl x y) w w' ∧ (∀ q, NIn h vt' vl' q → NIn h vt vl q ∨ w.heap.size ≤ q)
def ComesOne (w : World) (B h : Nat) (x y : Blk) (n m : Nat) (s t : St) (tos : List Nat) (fs : List Bytes) (vt vl : Value) (k : Nat) (e : Ending) (w' : World) : Prop :=
  e = .returned (.slice none 0 0) ∧ Cut7 w B h x y n m s t vt vl (tos.take k ++ tos.drop (k + 1)) (fs.take k ++ fs.drop (k + 1)) w'
def ComesTwo (w : World) (B h : Nat) (x y : Blk) (n m : Nat) (s : St) (o : (List Bytes × Bytes × Nat) × St) (tos : List Nat) (fs : List Bytes) (vt vl : Value) (k : Nat) (e : Ending) (w' : World) : Prop :=
  ∃ v, e = .returned v ∧ w'.ownsRow w.heap.size 46 1 v o.1.1.length (strs o.1.1) ∧
    Cut7 w B h x y n m s o.2 vt vl ((tos.take k ++ tos.drop (k + 1)) ++ tosOf 1 [o.1.2.1]) ((fs.take k ++ fs.drop (k + 1)) ++ laid [o.1.2.1]) w'
end Go.Proofs.YtiodphkmllcjdaaGreat.L7
end

section
namespace Go.Proofs.YtiodphkmllcjdaaGreat.L7
open Go.ChangeShapes Go.WideShapes Go.ChangeAt Go.RowKit Go.Deep L6

theorem add_add (a : Addr) (i j : Nat) : (a.add i).add j = a.add (i + j) := by
  unfold Addr.add
  by_cases hi : i = 0
  · subst hi; simp
  · by_cases hj : j = 0
    · subst hj; simp
    · rw [if_neg hi, if_neg hj, if_neg (by omega)]
      simp
      omega
/-- Acts in memory. -/
def Acts (w : World) (A : Option Addr) (n : Nat) : Prop := ∀ i, i < n → ∃ (ad : Addr) (o0 : Int) (o1 : Int) (s2 : ByteArray), A = some ad ∧ ad.block < w.heap.size ∧ (isInt o0 ∧ isInt o1) ∧ w.cell? (ad.add (i * 3)) = some (.int .i64 o0) ∧ w.cell? ⟨(ad.add (i * 3)).block, (ad.add (i * 3)).off + 1, none⟩ = some (.int .i64 o1) ∧ w.cell? ⟨(ad.add (i * 3)).block, (ad.add (i * 3)).off + 2, none⟩ = some (.string s2)
theorem Acts.below {w w' : World} {A : Option Addr} {n : Nat} (h : Acts w A n) (hb : Below w.heap.size w w') : Acts w' A n := fun i hi => by
  obtain ⟨ad, o0, o1, s2, e, hl, hx, c0, c1, c2⟩ := h i hi
  have hlb : (ad.add (i * 3)).block < w.heap.size := by rw [addr_block]; exact hl
  exact ⟨ad, o0, o1, s2, e, Nat.lt_of_lt_of_le hl hb.size, hx, (hb.cell (p := ad.add (i * 3)) hlb).trans c0, (hb.cell (p := ⟨(ad.add (i * 3)).block, (ad.add (i * 3)).off + 1, none⟩) hlb).trans c1, (hb.cell (p := ⟨(ad.add (i * 3)).block, (ad.add (i * 3)).off + 2, none⟩) hlb).trans c2⟩
set_option maxRecDepth 100000 in
theorem act_cells {H : Type} {enc : TypeId × Value → H} {w : World} {base : Nat} {sp : Nat → Bool} {held : Bool} {fuel : Nat} {cs : List Value} {x : DataW H × List MemPlace}
    (h : DataW.trod enc Tryz.prog w base sp held fuel 28 cs = some x) : ∃ (o0 : Int) (o1 : Int) (s2 : ByteArray), cs = [.int .i64 o0, .int .i64 o1, .string s2] ∧ (isInt o0 ∧ isInt o1) := by
  obtain ⟨ys, n, _, _, hlen, hyl, hf⟩ := DataW.trod_struct Tryz.underlying28 h
  have hc4 : Tryz.prog.cellsOf 28 = 3 := by kernel_rfl
  have hci : Tryz.prog.cellsOf 3 = 1 := by kernel_rfl
  have hcs : Tryz.prog.cellsOf 9 = 1 := by kernel_rfl
  rw [hc4] at hlen
  match cs, hlen with
  | [v0, v1, v2], _ =>
    have f0 := hf 0 _ rfl
    have s0 : DataW.trod enc Tryz.prog w base sp held n 3 [v0] = ys[0]? := by
      have h9 : ([v0, v1, v2].drop 0).take (Tryz.prog.cellsOf 3) = [v0] := by rw [hci]; rfl
      rw [← h9]; exact f0
    have f1 := hf 1 _ rfl
    have s1 : DataW.trod enc Tryz.prog w base sp held n 3 [v1] = ys[1]? := by
      have h9 : ([v0, v1, v2].drop 1).take (Tryz.prog.cellsOf 3) = [v1] := by rw [hci]; rfl
      rw [← h9]; exact f1
    have f2 := hf 2 _ rfl
    have s2 : DataW.trod enc Tryz.prog w base sp held n 9 [v2] = ys[2]? := by
      have h9 : ([v0, v1, v2].drop 2).take (Tryz.prog.cellsOf 9) = [v2] := by rw [hcs]; rfl
      rw [← h9]; exact f2
    have g : ∀ k, k < 3 → ∃ y, ys[k]? = some y := fun k hk => ⟨_, List.getElem?_eq_getElem (by rw [hyl]; exact hk)⟩
    obtain ⟨y0, e0⟩ := g 0 (by omega)
    obtain ⟨y1, e1⟩ := g 1 (by omega)
    obtain ⟨y2, e2⟩ := g 2 (by omega)
    obtain ⟨n0, q0, _, w0⟩ := DataW.trod_int Tryz.underlying3 (s0.trans e0)
    obtain ⟨n1, q1, _, w1⟩ := DataW.trod_int Tryz.underlying3 (s1.trans e1)
    obtain ⟨n2, q2, _, w2⟩ := DataW.trod_string Tryz.underlying9 (s2.trans e2)
    simp at q0 q1 q2
    subst q0 q1 q2
    exact ⟨n0, n1, n2, rfl, L5.i64_of_wf w0, L5.i64_of_wf w1⟩

set_option maxRecDepth 100000 in
theorem open_acts {H : Type} {enc : TypeId × Value → H} {W : World} {base : Nat} {v : Value} {d : DataW H} {ps : List MemPlace} (hval : Value.okWide Tryz.prog W .any base 22 v)
    (h : DataW.Trod enc Tryz.prog W 0 (fun _ => true) true 22 v d ps) : ∃ A n c, v = .slice A n c ∧ Acts W A n ∧ n ≤ maxLen := by
  obtain ⟨A, n, c, rfl⟩ := okWide_slice Tryz.underlying22 hval
  obtain ⟨fuel, hf⟩ := h
  rcases open_slice Tryz.underlying22 hf with ⟨h0, _⟩ | ⟨a, len, cap, m, nn, D, Pl, hcs, hb, hl, hm, hmm, hx, hi⟩
  · simp [Value.cells] at h0
    obtain ⟨rfl, rfl, rfl⟩ := h0
    exact ⟨none, 0, 0, rfl, fun i hi => absurd hi (by omega), Nat.zero_le _⟩
  · simp [Value.cells] at hcs
    obtain ⟨rfl, rfl, rfl⟩ := hcs
    refine ⟨some a, n, c, rfl, fun i hin => ?_, by omega⟩
    obtain ⟨cs', hc, ht⟩ := hi i (by rw [hmm]; simp; omega)
    obtain ⟨o0, o1, s2, rfl, r0⟩ := act_cells ht
    have hc4 : Tryz.prog.cellsOf 28 = 3 := by kernel_rfl
    rw [hc4] at hc
    obtain ⟨_, _, hat⟩ := World.cells?_some hc
    have hat2 : ∀ j, j < 3 → W.cell? (a.add (i * 3 + j)) = [Value.int .i64 o0, Value.int .i64 o1, Value.string s2][j]? := by
      intro j hj
      rw [← add_add]
      exact hat j hj
    have b0 := hat2 0 (by omega)
    have hlt := World.block_lt_of_cell? W _ b0
    rw [addr_block] at hlt
    have b1 := hat2 1 (by omega)
    rw [← add_add] at b1
    have b2 := hat2 2 (by omega)
    rw [← add_add] at b2
    exact ⟨a, o0, o1, s2, rfl, hlt, r0, b0, b1, b2⟩
end Go.Proofs.YtiodphkmllcjdaaGreat.L7
end
