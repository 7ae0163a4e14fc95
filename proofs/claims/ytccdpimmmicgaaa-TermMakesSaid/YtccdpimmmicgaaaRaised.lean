/- Contract of the document's own Raised (gemotref1): the power of exponents, in order, whatever order they came in. -/
import Derived.Test.YtccdpimmmicgaaaRefMk
import Derived.Deep.RegionLaw
import Derived.Laws.AppendOwn
namespace Go.Proofs.Ytccdpimmmicgaaa
open Go.ChangeShapes Go.WideShapes Go.ChangeAt Go.RowKit

/-- append onto a slice that the call owns, at a step of a region that draws its order. -/
theorem step_append_owned {P : Program} {w : World} {ops : Array Oper} {o : Oper} {a : Act} {K : Act → World → Prop} {Q : Exit → Act → World → Prop} {E : Prop} (hgd : o.guard = none) (s x : Operand) (t : TypeId)
    (ho : o.op = .call { callee := .builtin .append, args := #[s, x], argTypes := #[t, t] })
    (base : Nat) (e : TypeId) (i : TypeInfo) (z : Value) (size bytes : Nat) (ht : P.underlying t = some (.slice e)) (hi : P.info? e = some i) (hz : i.zero = some z)
    (hsize : i.size = size) (hby : i.bytes = bytes) (hzs : z.cells.size = size) (hsz : 0 < size)
    (v : Value) (n : Nat) (xs : List Value) (hs : a.eval s = v) (hown : w.ownsRow base e size v n xs)
    (ad : Addr) (m c : Nat) (news : List Value) (hx : a.eval x = .slice (some ad) m c) (hl : news.length = m * size) (hnews : ∀ j u, news[j]? = some u → w.cell? (ad.add j) = some u) (h1 : ∀ u ∈ news, u.oneCell' = true)
    (h63 : n + m ≤ maxLen) (hbytes : (n + m) * bytes ≤ 140737488355328) (hbase : base ≤ w.heap.size)
    (h : ∀ v' w', w'.ownsRow base e size v' (n + m) (xs ++ news) → w.grownBy w' v.ownBlock → K (a.put o.dst v') w') :
    if Region.wanted o (yielded ops a.tmps) = true then Oper.wp P o a w K Q else E := by
  have hw : Region.wanted o (yielded ops a.tmps) = true := by simp [Region.wanted, hgd]
  rw [if_pos hw]
  obtain ⟨v', w', hr, h2, h3, _⟩ := run_append_own (P := P) w base t o.type e i z size bytes ht hi hz hsize hby hzs hsz v n xs hown ad m c news hl hnews h1 h63 hbytes hbase
  unfold Oper.wp execOp
  simp only [ho, resolve, invoke, builtin, Sem.run_bind, Sem.run_pure, Result.andThen_ok, List.map_toArray, List.map_cons, List.map_nil, hs, hx, hr]
  exact h v' w' h2 h3

def Picking (l : List (List UInt8)) (w : World) (K : Nat) (v3 v5 : Value) (wr : World) : Prop :=
  ∃ done ls : List (List UInt8), K = ls.length ∧ (done ++ ls).Perm l ∧ done.Pairwise Tm.leq ∧ (∀ x ∈ done, ∀ y ∈ ls, Tm.leq x y) ∧ done.flatten.length + ls.flatten.length = l.flatten.length ∧
    v5 = .string ⟨(101 :: UInt8.ofNat l.length :: done.flatten).toArray⟩ ∧ wr.ownsRow w.heap.size 9 1 v3 ls.length (strs ls) ∧ Below w.heap.size w wr

def Least (ls : List (List UInt8)) (V : World) (K : Nat) (v6 v7 : Value) (wr : World) : Prop :=
  ∃ (i at_ : Nat) (x : List UInt8), K + i = ls.length ∧ v7 = .int .i64 i ∧ v6 = .int .i64 at_ ∧ ls[at_]? = some x ∧ (∀ j y, j < i → ls[j]? = some y → Tm.leq x y) ∧ ∃ m, wr = V.drewN m

theorem Tm.leq_refl (a : List UInt8) : Tm.leq a a := by
  unfold Tm.leq
  cases h : Tm.less a a with
  | false => rfl
  | true => have := Tm.less_asymm a a h; rw [h] at this; exact this
theorem Tm.pairwise_chain {xs : List (List UInt8)} (h : xs.Pairwise Tm.leq) : Tm.chain [] xs := by
  have key : ∀ (xs : List (List UInt8)) (ah : List UInt8), (∀ x ∈ xs, Tm.leq ah x) → xs.Pairwise Tm.leq → Tm.chain ah xs := by
    intro xs
    induction xs with
    | nil => intro ah _ _; trivial
    | cons p ps ih =>
      intro ah h1 h2
      cases h2 with
      | cons h3 h4 => exact ⟨h1 p (by simp), ih p h3 h4⟩
  exact key xs [] (fun x _ => Tm.leq_nil x) h
theorem text_any {w : World} {B : Nat} {v : Value} {ps : List (List UInt8)} (h : w.ownsRow B 9 1 v ps.length (strs ps)) : ∃ A c, v = .slice A ps.length c ∧ True := by
  rcases h.2 with ⟨rfl, h0⟩ | ⟨g, cap, cur, rfl, _⟩
  · exact ⟨none, 0, by rw [h0], trivial⟩
  · exact ⟨_, cap, rfl, trivial⟩
theorem text_cap {w : World} {B : Nat} {v : Value} {ps : List (List UInt8)} (h : w.ownsRow B 9 1 v ps.length (strs ps)) (hne : ps ≠ []) :
    ∃ g cap, v = .slice (some ⟨g, 0, none⟩) ps.length cap ∧ Texts w g ps ∧ g < w.heap.size ∧ ps.length ≤ cap ∧ B ≤ g := by
  have h' := h
  rcases h.2 with ⟨_, h0⟩ | ⟨g, cap, cur, rfl, h2, _, h4, _⟩
  · exact absurd (List.length_eq_zero_iff.1 h0) hne
  · exact ⟨g, cap, rfl, texts_of_row h', lt_of_row h', h4, h2⟩

theorem strs_at {xs : List (List UInt8)} {j : Nat} {u : Value} (h : (strs xs)[j]? = some u) : ∃ x, xs[j]? = some x ∧ u = .string ⟨x.toArray⟩ := by
  simp only [strs, List.getElem?_map, Option.map_eq_some_iff] at h
  obtain ⟨x, h1, h2⟩ := h
  exact ⟨x, h1, h2.symm⟩
theorem add_zero_at (g j : Nat) : (⟨g, 0, none⟩ : Addr).add j = ⟨g, j, none⟩ := by
  unfold Addr.add
  split
  · rename_i h; subst h; rfl
  · simp
theorem add_off_at (g o j : Nat) : (⟨g, o, none⟩ : Addr).add j = ⟨g, o + j, none⟩ := by
  unfold Addr.add
  split
  · rename_i h; subst h; rfl
  · simp
theorem strs_take (xs : List (List UInt8)) (n : Nat) : strs (xs.take n) = (strs xs).take n := by simp [strs, List.map_take]
theorem strs_drop (xs : List (List UInt8)) (n : Nat) : strs (xs.drop n) = (strs xs).drop n := by simp [strs, List.map_drop]

theorem picking_next {l : List (List UInt8)} {w wr W4 w4 w5 : World} {done ls : List (List UInt8)} {x y : List UInt8} {at_ : Nat} {v4 v5 : Value} (hx : ls[at_]? = some x)
    (hD : (done ++ ls).Perm l ∧ done.Pairwise Tm.leq ∧ ∀ a ∈ done, ∀ b ∈ ls, Tm.leq a b) (hmin : ∀ j z, j < ls.length → ls[j]? = some z → Tm.leq x z) (hsum : done.flatten.length + ls.flatten.length = l.flatten.length)
    (hy : 101 :: UInt8.ofNat l.length :: done.flatten = y) (hbel : Below w.heap.size w wr) (h4 : Below wr.heap.size wr W4) (hg4 : W4.grownBy w4 (some wr.heap.size)) (o4 : w4.ownsRow w.heap.size 9 1 v4 at_ (strs (ls.take at_)))
    (o5 : w5.ownsRow w.heap.size 9 1 v5 (at_ + (ls.length - (at_ + 1))) (strs (ls.take at_) ++ strs (ls.drop (at_ + 1)))) (hg5 : w4.grownBy w5 v4.ownBlock) :
    Picking l w (ls.length - 1) v5 (.string (⟨y.toArray⟩ ++ ⟨x.toArray⟩)) w5 := by
  have hatl : at_ < ls.length := (List.getElem?_eq_some_iff.1 hx).1
  have hsplit : ls = ls.take at_ ++ x :: ls.drop (at_ + 1) := by
    have h1 : ls.drop at_ = x :: ls.drop (at_ + 1) := by
      rw [List.drop_eq_getElem_cons hatl]
      congr 1
      exact (List.getElem?_eq_some_iff.1 hx).2
    rw [← h1, List.take_append_drop]
  have hls : ls.Perm (x :: (ls.take at_ ++ ls.drop (at_ + 1))) := by
    conv => lhs; rw [hsplit]
    exact List.perm_middle
  have hxm : x ∈ ls := List.mem_of_getElem? hx
  have hmem : ∀ z, z ∈ ls.take at_ ++ ls.drop (at_ + 1) → z ∈ ls := fun z hz => by
    rcases List.mem_append.1 hz with h | h
    · exact List.mem_of_mem_take h
    · exact List.mem_of_mem_drop h
  have hfl : ls.flatten.length = x.length + (ls.take at_ ++ ls.drop (at_ + 1)).flatten.length := by
    conv => lhs; rw [hsplit]
    simp only [List.flatten_append, List.flatten_cons, List.length_append]
    omega
  have B4 : Below w.heap.size w w4 := Below.grown (hbel.trans (h4.mono hbel.size)) hg4 (Nat.le_trans hbel.size h4.size) (fun k hk => by cases hk; exact hbel.size)
  have B5 : Below w.heap.size w w5 := Below.grown B4 hg5 B4.size (fun k hk => (o4.lt k hk).1)
  refine ⟨done ++ [x], ls.take at_ ++ ls.drop (at_ + 1), by simp; omega, ?_, ?_, ?_, ?_, ?_, ?_, B5⟩
  · rw [List.append_assoc]
    exact (List.Perm.append_left done hls.symm).trans hD.1
  · refine List.pairwise_append.2 ⟨hD.2.1, List.pairwise_singleton _ _, ?_⟩
    intro a ha b hb
    rw [List.mem_singleton.1 hb]
    exact hD.2.2 a ha x hxm
  · intro a ha b hb
    rcases List.mem_append.1 ha with ha | ha
    · exact hD.2.2 a ha b (hmem b hb)
    · rw [List.mem_singleton.1 ha]
      obtain ⟨j, hj, hjb⟩ := List.mem_iff_getElem.1 (hmem b hb)
      exact hmin j b hj (by rw [List.getElem?_eq_getElem hj, hjb])
  · rw [List.flatten_append, List.length_append]
    simp only [List.flatten_cons, List.flatten_nil, List.append_nil]
    omega
  · have hcat : (⟨y.toArray⟩ ++ ⟨x.toArray⟩ : ByteArray) = ⟨(y ++ x).toArray⟩ := ByteArray.mk_append_mk y x
    rw [hcat, ← hy, List.flatten_append]
    simp
  · have e9 : strs (ls.take at_ ++ ls.drop (at_ + 1)) = strs (ls.take at_) ++ strs (ls.drop (at_ + 1)) := by simp [strs]
    rw [e9]
    have e8 : (ls.take at_ ++ ls.drop (at_ + 1)).length = at_ + (ls.length - (at_ + 1)) := by simp; omega
    rw [e8]
    exact o5

def RaisedOut (w : World) (l : List (List UInt8)) (e : Ending) (w' : World) : Prop :=
  ∃ ys : List (List UInt8), e = .returned (.string ⟨(101 :: UInt8.ofNat l.length :: ys.flatten).toArray⟩) ∧ ys.Perm l ∧ Tm.chain [] ys ∧ Below w.heap.size w w'

set_option maxRecDepth 100000 in
set_option maxHeartbeats 8000000 in
theorem Raised_calls (l : List (List UInt8)) (g cap : Nat) (w : World) (hT : Texts w g l) (hg : g < w.heap.size) (hn : 0 < l.length) (hn2 : l.length ≤ 40) (hfl : l.flatten.length ≤ 100000) :
    Calls Try.prog 61 #[.slice (some ⟨g, 0, none⟩) l.length cap] w (RaisedOut w l) := by
  have HT := Lib.hid hT
  obtain ⟨i0, hi, hz0, hz1, hz2⟩ := info_parts info_text
  have j0 : ((l.length : Int) == 0) = false := by rw [beq_eq_false_iff_ne]; omega
  have j1 : (l.length : Int) ≤ 40 := by omega
  have j2 : (0 : Int) < (l.length : Int) := by omega
  have hc : ∀ W : World, (convert 80 9 (.slice (some ⟨W.heap.size, 0, none⟩) 1 1)).run Try.prog (W.alloc (.cells #[.int .u8 (l.length : Int)] 5)) = .ok (.string ⟨#[UInt8.ofNat l.length]⟩) (W.alloc (.cells #[.int .u8 (l.length : Int)] 5)) := by
    intro W
    have := conv_lit W [UInt8.ofNat l.length] 9 1 5 Try.underlying9
    have e : ((UInt8.ofNat l.length).toNat : Int) = (l.length : Int) := by rw [UInt8.toNat_ofNat']; omega
    have key : (List.map (fun b : UInt8 => Value.int .u8 (b.toNat : Int)) [UInt8.ofNat l.length]).toArray = #[.int .u8 (l.length : Int)] := by
      simp only [List.map_cons, List.map_nil, e]
    rw [key] at this
    exact this
  have hnews : ∀ (V : World), Below w.heap.size w V → ∀ j u, (strs l)[j]? = some u → V.cell? ((⟨g, 0, none⟩ : Addr).add j) = some u := by
    intro V hV j u hu
    obtain ⟨x, hx, rfl⟩ : ∃ x, l[j]? = some x ∧ u = .string ⟨x.toArray⟩ := by
      simp only [strs, List.getElem?_map, Option.map_eq_some_iff] at hu
      obtain ⟨x, h1, h2⟩ := hu
      exact ⟨x, h1, h2.symm⟩
    have hadd : (⟨g, 0, none⟩ : Addr).add j = ⟨g, j, none⟩ := by unfold Addr.add; split <;> simp_all
    rw [hadd]
    exact (HT.out.below hV hg) j x hx
  have HN := Lib.hid hnews
  have hone : ∀ (xs : List (List UInt8)), ∀ u ∈ strs xs, u.oneCell' = true := by
    intro xs u hu
    simp only [strs, List.mem_map] at hu
    obtain ⟨x, _, rfl⟩ := hu
    rfl
  have HOne := Lib.hid hone
  clear hT hnews hone
  go_enter Try.func61, Try.ntmps61
  go_wp2_with (at_builtin
               refine wpList_append_own _ rfl _ _ 32 rfl w.heap.size 9 i0 (.string ⟨#[]⟩) 1 16 Try.underlying32 hi hz0 hz1 hz2 rfl (by decide) _ 0 [] rfl (World.ownsRow_lit (base := w.heap.size) (size := 1) w #[] 0 (Nat.le_refl _) (by unfold maxLen; omega) rfl) ⟨g, 0, none⟩ l.length cap (strs l) rfl (by simp [strs]) (HN.out _ ((Below.refl w.heap.size w).alloc (Nat.le_refl _) _)) (HOne.out l) (by unfold maxLen; omega) (by omega) (by simp) ?_
               intro v3 w3 hown3 hgrow3 hnil3)
  have hlit := World.ownsRow_lit (e := 9) (base := w.heap.size) (size := 1) w #[] 0 (Nat.le_refl _) (by unfold maxLen; omega) rfl
  have B3 : Below w.heap.size w w3 := Below.grown ((Below.refl w.heap.size w).alloc (Nat.le_refl _) _) hgrow3 (by simp) (fun j hj => (hlit.lt j hj).1)
  have O3 : w3.ownsRow w.heap.size 9 1 v3 l.length (strs l) := by simpa using hown3
  have hcat : (⟨#[101]⟩ ++ ⟨#[UInt8.ofNat l.length]⟩ : ByteArray) = ⟨[101, UInt8.ofNat l.length].toArray⟩ := ByteArray.mk_append_mk [101] [UInt8.ofNat l.length]
  have HI : Hid (Picking l w l.length v3 (.string (⟨#[101]⟩ ++ ⟨#[UInt8.ofNat l.length]⟩)) (w3.alloc (.cells #[.int .u8 (l.length : Int)] 5))) :=
    ⟨[], l, rfl, List.Perm.refl _, List.Pairwise.nil, by simp, by simp, by rw [hcat]; rfl, O3.alloc _, B3.alloc B3.size _⟩
  clear hown3 hgrow3 hnil3 hlit B3 O3 hcat hc
  go_loopg [3, 5] l.length (fun K v3 v5 wr => Picking l w K v3 v5 wr)
  case atStart => exact HI.out
  case round =>
    clear HI
    obtain ⟨done, ls, hK, hperm, hpw, hle, hsum, rfl, hrow, hbel⟩ := hrel
    have HD := Lib.hid (And.intro hperm (And.intro hpw hle))
    have hlsl : ls.length ≤ 40 := by have := hperm.length_eq; rw [List.length_append] at this; omega
    by_cases hls : ls = []
    · subst hls
      obtain ⟨A3, c3, rfl, _⟩ := text_any hrow
      clear hperm hpw hle hrow hK
      simp only [List.length_nil]
      go_wp2
      go_ret
      refine ⟨done, rfl, by simpa using HD.out.1, Tm.pairwise_chain HD.out.2.1, hbel⟩
    · obtain ⟨g3, c3, rfl, hTx, hg3, hc3, hgb⟩ := text_cap hrow hls
      have hls0 : 0 < ls.length := List.length_pos_iff.2 hls
      have k1 : (0 : Int) < (ls.length : Int) := by omega
      have k2 : (ls.length : Int) ≤ 40 := by omega
      have HTx := Lib.hid hTx
      have HRw := Lib.hid hrow
      have HK := Lib.hid hK
      obtain ⟨x0, hx0⟩ : ∃ x0, ls[0]? = some x0 := ⟨_, List.getElem?_eq_getElem hls0⟩
      have HX0 := Lib.hid hx0
      have HSum := Lib.hid hsum
      obtain ⟨y, hy⟩ : ∃ y, 101 :: UInt8.ofNat l.length :: done.flatten = y := ⟨_, rfl⟩
      have hyl : y.length = done.flatten.length + 2 := by rw [← hy]; simp
      rw [hy]
      have HYd := Lib.hid hy
      have HYl := Lib.hid hyl
      have hyl2 : y.length ≤ 100002 := by omega
      clear hTx hrow hK hx0 hperm hpw hle hls hsum hy hyl
      go_wp2
      go_loopg [6, 7] ls.length (fun K v6 v7 wr' => Least ls wr K v6 v7 wr')
      case atStart => exact ⟨0, 0, x0, by omega, rfl, rfl, HX0.out, fun j y hj => absurd hj (by omega), 0, rfl⟩
      case round =>
        obtain ⟨i, at_, x, hK2, rfl, rfl, hx, hmin, md, rfl⟩ := hrel
        have hatl : at_ < ls.length := (List.getElem?_eq_some_iff.1 hx).1
        have a1 : (0 : Int) ≤ (at_ : Int) := by omega
        have a2 : (at_ : Int) < (ls.length : Int) := by omega
        have tx := HTx.out at_ x hx
        have HX := Lib.hid hx
        have HMin := Lib.hid hmin
        clear hx hmin
        by_cases hil : i < ls.length
        · obtain ⟨y, hy⟩ : ∃ y, ls[i]? = some y := ⟨_, List.getElem?_eq_getElem hil⟩
          have ty := HTx.out i y hy
          have b1 : (i : Int) < (ls.length : Int) := by omega
          have b2 : (0 : Int) ≤ (i : Int) := by omega
          have HY := Lib.hid hy
          clear hy
          by_cases hlt : Tm.less y x = true
          · have q1 : Op.bytesLess y x = true := hlt
            have HLt := Lib.hid hlt
            clear hlt
            go_wp2
            go_quiet (fail)
            go_wp2
            go_roundg (gk - 1)
            case measure => omega
            case rel =>
              refine ⟨i + 1, i, y, by omega, rfl, rfl, HY.out, ?_, _, rfl⟩
              intro j z hj hz
              rcases Nat.lt_or_ge j i with h | h
              · exact Tm.leq_trans (Tm.less_asymm _ _ HLt.out) (HMin.out j z h hz)
              · obtain rfl : j = i := by omega
                rw [HY.out] at hz
                simp only [Option.some.injEq] at hz
                subst hz
                exact Tm.leq_refl y
          · have q1 : Op.bytesLess y x = false := by
              cases h : Op.bytesLess y x with
              | false => rfl
              | true => exact absurd h hlt
            have HLt : Hid (Tm.leq x y) := q1
            clear hlt
            go_wp2
            go_quiet (fail)
            go_wp2
            go_roundg (gk - 1)
            case measure => omega
            case rel =>
              refine ⟨i + 1, at_, x, by omega, rfl, rfl, HX.out, ?_, _, rfl⟩
              intro j z hj hz
              rcases Nat.lt_or_ge j i with h | h
              · exact HMin.out j z h hz
              · obtain rfl : j = i := by omega
                rw [HY.out] at hz
                simp only [Option.some.injEq] at hz
                subst hz
                exact HLt.out
        · obtain rfl : i = ls.length := by omega
          have b1 : ¬ ((ls.length : Int) < (ls.length : Int)) := by omega
          have hxm := Tm.length_le_flatten ls x (List.mem_of_getElem? HX.out)
          have hsm := HSum.out
          have z1 : (y.length : Int) + (x.length : Int) ≤ 1000000 := by omega
          have z2 : y.length + x.length ≤ 1000000 := by omega
          have z3 : (at_ : Int) ≤ (ls.length : Int) := by omega
          have z4 : (at_ : Int) ≤ (c3 : Int) := by omega
          have z5 : (at_ : Int) + 1 ≤ (ls.length : Int) := by omega
          have z6 : (ls.length : Int) ≤ (c3 : Int) := by omega
          have z7 : (at_ : Int) + 1 ≤ 41 := by omega
          have z8 : (0 : Int) ≤ (at_ : Int) + 1 := by omega
          have hgw : wr.heap.size ≠ g3 := by omega
          have hws := hbel.size
          have hlit : ((wr.drewN (md + 1)).alloc (.cells #[] 9)).ownsRow w.heap.size 9 1 (.slice (some ⟨wr.heap.size, 0, none⟩) 0 0) 0 [] := World.ownsRow_lit (e := 9) (base := w.heap.size) (size := 1) (wr.drewN (md + 1)) #[] 0 hws (by unfold maxLen; omega) rfl
          have hcells : ∀ j u, (strs ls)[j]? = some u → ((wr.drewN (md + 1)).alloc (.cells #[] 9)).cell? ⟨g3, j, none⟩ = some u := by
            intro j u hu
            obtain ⟨z, hz, rfl⟩ := strs_at hu
            exact (HTx.out.below (((below_drewN (Below.refl wr.heap.size wr) (md + 1))).alloc (Nat.le_refl _) _) hg3) j z hz
          have hnews1 : ∀ j u, (strs (ls.take at_))[j]? = some u → ((wr.drewN (md + 1)).alloc (.cells #[] 9)).cell? ((⟨g3, 0, none⟩ : Addr).add j) = some u := by
            intro j u hu
            rw [add_zero_at]
            refine hcells j u ?_
            rw [strs_take] at hu
            have hj := (List.getElem?_eq_some_iff.1 hu).1
            rw [List.getElem?_take_of_lt (by simp at hj; omega)] at hu
            exact hu
          have HLit := Lib.hid hlit
          have HN1 := Lib.hid hnews1
          have HCl := Lib.hid hcells
          have hL1 : Hid ((strs (ls.take at_)).length = at_ * 1) := by show _ = _; simp [strs]; omega
          have hL2 : Hid ((strs (ls.drop (at_ + 1))).length = (ls.length - (at_ + 1)) * 1) := by show _ = _; simp [strs]
          have m1 : Hid (0 + at_ ≤ maxLen ∧ (0 + at_) * 16 ≤ 140737488355328 ∧ at_ + (ls.length - (at_ + 1)) ≤ maxLen ∧ (at_ + (ls.length - (at_ + 1))) * 16 ≤ 140737488355328) := ⟨by unfold maxLen; omega, by omega, by unfold maxLen; omega, by omega⟩
          have m2 : Hid (w.heap.size ≤ ((wr.drewN (md + 1)).alloc (.cells #[] 9)).heap.size) := by show _ ≤ _; simp; omega
          have hwr : IntKind.i64.wrap ((at_ : Int) + 1) = (at_ : Int) + 1 := by rw [IntKind.wrap_i64]; omega
          have htn : ((at_ : Int) + 1).toNat = at_ + 1 := by omega
          have far : ∀ (V : World), ((wr.drewN (md + 1)).alloc (.cells #[] 9)).grownBy V (some wr.heap.size) → ∀ j u, (strs (ls.drop (at_ + 1)))[j]? = some u → V.cell? ⟨g3, at_ + 1 + j, none⟩ = some u := by
            intro V hV j u hu
            rw [strs_drop, List.getElem?_drop] at hu
            have h1 := hcells _ _ hu
            rw [hV.cell_far ⟨g3, at_ + 1 + j, none⟩ (by simp; omega) (by simp; omega)]
            exact h1
          have HFar := Lib.hid far
          clear hlit hnews1 hcells hxm hsm far
          by_cases hcap : c3 = at_ + 1
          · subst hcap
            have hnil : strs (ls.drop (at_ + 1)) = [] := by rw [List.drop_of_length_le (by omega)]; rfl
            have HNil := Lib.hid hnil
            have z9 : (at_ : Int) ≤ (at_ : Int) + 1 := by omega
            clear hnil
            go_wp2
            go_region_law (first
              | (refine step_append_owned rfl (.tmp 50) (.tmp 54) 32 rfl w.heap.size 9 i0 (.string ⟨#[]⟩) 1 16 Try.underlying32 hi hz0 hz1 hz2 rfl (by decide) v4 at_ (strs (ls.take at_)) (by simp [Act.eval]) X4.out.1 ⟨g3, 0, none⟩ (ls.length - (at_ + 1)) 0 (strs (ls.drop (at_ + 1))) (by simp [Act.eval]; omega) hL2.out (fun j u hu => by rw [HNil.out] at hu; simp at hu) (HOne.out _) m1.out.2.2.1 m1.out.2.2.2 (Nat.le_trans m2.out X4.out.2.size) ?_
                 intro v5 w5 hown5 hgrow5
                 have X5 : Hid (w5.ownsRow w.heap.size 9 1 v5 (at_ + (ls.length - (at_ + 1))) (strs (ls.take at_) ++ strs (ls.drop (at_ + 1))) ∧ w4.grownBy w5 v4.ownBlock) := ⟨hown5, hgrow5⟩
                 clear hown5 hgrow5)
              | (refine step_append_owned rfl (.tmp 46) (.tmp 49) 32 rfl w.heap.size 9 i0 (.string ⟨#[]⟩) 1 16 Try.underlying32 hi hz0 hz1 hz2 rfl (by decide) (.slice (some ⟨wr.heap.size, 0, none⟩) 0 0) 0 [] (by simp [Act.eval]) HLit.out ⟨g3, 0, none⟩ at_ (at_ + 1) (strs (ls.take at_)) (by simp [Act.eval]) hL1.out HN1.out (HOne.out _) m1.out.1 m1.out.2.1 m2.out ?_
                 intro v4 w4 hown4 hgrow4
                 have X4 : Hid (w4.ownsRow w.heap.size 9 1 v4 at_ (strs (ls.take at_)) ∧ ((wr.drewN (md + 1)).alloc (.cells #[] 9)).grownBy w4 (some wr.heap.size)) := ⟨by rw [Nat.zero_add] at hown4; exact hown4, hgrow4⟩
                 clear hown4 hgrow4))
            go_wp2
            go_roundg (ls.length - 1)
            case measure => have := HK.out; omega
            case rel => exact picking_next HX.out HD.out HMin.out HSum.out HYd.out hbel (((below_drewN (Below.refl wr.heap.size wr) (md + 1))).alloc (Nat.le_refl _) _) X4.out.2 X4.out.1 X5.out.1 X5.out.2
          · go_wp2
            go_region_law (first
              | (refine step_append_owned rfl (.tmp 50) (.tmp 54) 32 rfl w.heap.size 9 i0 (.string ⟨#[]⟩) 1 16 Try.underlying32 hi hz0 hz1 hz2 rfl (by decide) v4 at_ (strs (ls.take at_)) (by simp [Act.eval]) X4.out.1 ⟨g3, at_ + 1, none⟩ (ls.length - (at_ + 1)) (c3 - (at_ + 1)) (strs (ls.drop (at_ + 1))) (by simp [Act.eval]) hL2.out (fun j u hu => by rw [add_off_at]; exact HFar.out _ X4.out.2 j u hu) (HOne.out _) m1.out.2.2.1 m1.out.2.2.2 (Nat.le_trans m2.out X4.out.2.size) ?_
                 intro v5 w5 hown5 hgrow5
                 have X5 : Hid (w5.ownsRow w.heap.size 9 1 v5 (at_ + (ls.length - (at_ + 1))) (strs (ls.take at_) ++ strs (ls.drop (at_ + 1))) ∧ w4.grownBy w5 v4.ownBlock) := ⟨hown5, hgrow5⟩
                 clear hown5 hgrow5)
              | (refine step_append_owned rfl (.tmp 46) (.tmp 49) 32 rfl w.heap.size 9 i0 (.string ⟨#[]⟩) 1 16 Try.underlying32 hi hz0 hz1 hz2 rfl (by decide) (.slice (some ⟨wr.heap.size, 0, none⟩) 0 0) 0 [] (by simp [Act.eval]) HLit.out ⟨g3, 0, none⟩ at_ c3 (strs (ls.take at_)) (by simp [Act.eval]) hL1.out HN1.out (HOne.out _) m1.out.1 m1.out.2.1 m2.out ?_
                 intro v4 w4 hown4 hgrow4
                 have X4 : Hid (w4.ownsRow w.heap.size 9 1 v4 at_ (strs (ls.take at_)) ∧ ((wr.drewN (md + 1)).alloc (.cells #[] 9)).grownBy w4 (some wr.heap.size)) := ⟨by rw [Nat.zero_add] at hown4; exact hown4, hgrow4⟩
                 clear hown4 hgrow4))
            go_wp2
            go_roundg (ls.length - 1)
            case measure => have := HK.out; omega
            case rel => exact picking_next HX.out HD.out HMin.out HSum.out HYd.out hbel (((below_drewN (Below.refl wr.heap.size wr) (md + 1))).alloc (Nat.le_refl _) _) X4.out.2 X4.out.1 X5.out.1 X5.out.2

end Go.Proofs.Ytccdpimmmicgaaa
