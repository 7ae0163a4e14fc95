/- Contract of the statements' own some: of a row of terms those that raw numbers speak of. What is hidden of a name in the row of KnowSecret; a row that grows by whatever row of texts. The law KnowSecret, once Derivable holds in general: for all steps, places and numbers it returns true. The statement KnowSecret: for every input the law returns true, and its arguments read as they did. -/
import Derived.Test.YtloheongiceliaaHelpG3
import Derived.Test.YtloheongiceliaaGathA
import Derived.ChangeSlices
import Derived.Test.YtloheongiceliaaKLowG
import Derived.Test.YtloheongiceliaaInside
import Derived.Test.YtloheongiceliaaGathD
section
namespace Go.Proofs.Ytloheongiceliaa.L3
open Go.ChangeShapes Go.WideShapes Go.ChangeAt Go.RowKit

/-- A row of ints, as it lies in memory. -/
def IRow (w : World) (A : Option Addr) (n : Nat) : Prop := ∀ j, j < n → ∃ (ad : Addr) (x : Int), A = some ad ∧ ad.block < w.heap.size ∧ w.cell? (ad.add j) = some (.int .i64 x) ∧ isInt x
theorem IRow.below {w w' : World} {A : Option Addr} {n : Nat} (h : IRow w A n) (hb : Below w.heap.size w w') : IRow w' A n := fun j hj => by
  obtain ⟨ad, x, e, hl, hc, hx⟩ := h j hj
  exact ⟨ad, x, e, Nat.lt_of_lt_of_le hl hb.size, (hb.cell (p := ad.add j) (by rw [block_add]; exact hl)).trans hc, hx⟩
set_option maxRecDepth 100000 in
theorem open_irow {H : Type} {enc : TypeId × Value → H} {W : World} {base : Nat} {v : Value} {d : DataW H} {ps : List MemPlace}
    (hval : Value.okWide Try.prog W .any base 37 v) (h : DataW.Trod enc Try.prog W 0 (fun _ => true) true 37 v d ps) : ∃ B : Option Addr × Nat × Nat, v = .slice B.1 B.2.1 B.2.2 ∧ IRow W B.1 B.2.1 ∧ B.2.1 ≤ maxLen := by
  obtain ⟨A, n, c, rfl⟩ := okWide_slice Try.underlying37 hval
  obtain ⟨fuel, hf⟩ := h
  rcases open_ints Try.underlying37 Try.underlying3 (by kernel_rfl) hf with ⟨h0, _⟩ | ⟨a, len, cap, zs, hcs, _, hl, hm, hsl, _, hcell, hsz⟩
  · simp [Value.cells] at h0
    obtain ⟨rfl, rfl, rfl⟩ := h0
    exact ⟨(none, 0, 0), rfl, fun j hj => absurd hj (by simp), Nat.zero_le _⟩
  · simp [Value.cells] at hcs
    obtain ⟨rfl, rfl, rfl⟩ := hcs
    simp only [if_true] at hsl
    refine ⟨(some a, n, c), rfl, fun j hj => ?_, by show n ≤ maxLen; omega⟩
    have hj' : j < n := hj
    have hc2 := hcell j (by omega)
    have hlt := World.block_lt_of_cell? W _ hc2
    rw [block_add] at hlt
    have hw := i64_of_wf (hsz (zs.getD j 0) (by
      rw [List.getD, List.getElem?_eq_getElem (by omega), Option.getD_some]
      exact List.getElem_mem _))
    exact ⟨a, zs.getD j 0, rfl, hlt, hc2, hw.1, hw.2⟩

def Choosing (W : World) (ts : List (List UInt8)) (n k : Nat) (v5 v6 : Value) (wr : World) : Prop :=
  ∃ (i : Nat) (ks : List (List UInt8)), k + i = 12 ∧ i ≤ n ∧ v6 = .int .i64 i ∧ ks.length = i ∧ wr.ownsRow W.heap.size 24 1 v5 ks.length (strs ks) ∧ (∀ x ∈ ks, x ∈ ts) ∧ Below W.heap.size W wr
def SomeOut (W : World) (ts : List (List UInt8)) (e : Ending) (w' : World) : Prop :=
  ∃ (v : Value) (ks : List (List UInt8)), e = .returned v ∧ w'.ownsRow W.heap.size 24 1 v ks.length (strs ks) ∧ ks.length ≤ 12 ∧ (∀ x ∈ ks, x ∈ ts) ∧ Below W.heap.size W w'

set_option maxRecDepth 100000 in
set_option maxHeartbeats 4000000 in
theorem some_calls {W : World} {B g cap : Nat} {ts : List (List UInt8)} (hrow : W.ownsRow B 24 1 (.slice (some ⟨g, 0, none⟩) ts.length cap) ts.length (strs ts)) (h2 : 2 ≤ ts.length) (h42 : ts.length ≤ 42)
    (A : Option Addr) (n c : Nat) (hI : IRow W A n) (hn : n ≤ maxLen) :
    Calls Try.prog 18 #[.slice (some ⟨g, 0, none⟩) ts.length cap, .slice A n c] W (SomeOut W ts) := by
  unfold maxLen at hn
  obtain ⟨i0, hi, hz0, hz1, hz2⟩ := info_parts info_term
  have HI := Lib.hid hI
  have HT := Lib.hid (texts_of_row hrow)
  have HL := Lib.hid (lt_of_row hrow)
  clear hI hrow
  go_enter Try.func18, Try.ntmps18
  go_wp2
  go_loopg [5, 6] 12 (fun k v5 v6 wr => Choosing W ts n k v5 v6 wr)
  case atStart => exact ⟨0, [], by omega, by omega, rfl, rfl, World.ownsRow_nil _ _ _ _, by simp, Below.refl _ _⟩
  case round =>
    obtain ⟨i, ks, hk, hin, rfl, hlen, hr, hmem, hbel⟩ := hrel
    have HK := Lib.hid (And.intro hk (And.intro hlen hmem))
    have HBel := Lib.hid hbel
    by_cases h1 : i < n ∧ i < 12
    · obtain ⟨ad, x, rfl, hadw, hc0, hx⟩ := HI.out i h1.1
      have hcx : wr.cell? (ad.add i) = some (.int .i64 x) := (hbel.cell (p := ad.add i) (by rw [block_add]; exact hadw)).trans hc0
      have hl := Tm.pickN_lt x ts.length (by omega)
      obtain ⟨p, hp⟩ : ∃ p, Tm.pickN x ts.length = p := ⟨_, rfl⟩
      have cP := fun V => pick_calls x ts.length hx.1 hx.2 (by omega) (by omega) V
      rw [hp] at hl cP
      obtain ⟨y, hy⟩ : ∃ y, ts[p]? = some y := ⟨_, List.getElem?_eq_getElem hl⟩
      have hcy : wr.cell? ⟨g, p, none⟩ = some (.string ⟨y.toArray⟩) := (hbel.cell (p := ⟨g, p, none⟩) HL.out).trans (HT.out p y hy)
      have HP := Lib.hid cP
      have i1 : (i : Int) < (n : Int) := by omega
      have i2 : (i : Int) < 12 := by omega
      have i3 : (0 : Int) ≤ (i : Int) := by omega
      have p1 : (p : Int) < (ts.length : Int) := by omega
      have p2 : (0 : Int) ≤ (p : Int) := by omega
      have hks : ks.length ≤ 12 := by omega
      have hgk : gk - 1 < gk := by omega
      have hsz : W.heap.size ≤ wr.heap.size := hbel.size
      have hRel : Hid (∀ (v2 : Value) (w4 : World), w4.ownsRow W.heap.size 24 1 v2 (ks.length + 1) (strs ks ++ [.string ⟨y.toArray⟩]) → wr.grownBy w4 u5.ownBlock → Choosing W ts n (gk - 1) v2 (.int .i64 ((i + 1 : Nat) : Int)) w4) := by
        intro v2 w4 k3 k4
        obtain ⟨h5, h6, h7⟩ := HK.out
        refine ⟨i + 1, ks ++ [y], by omega, by omega, rfl, by simp [h6], ?_, ?_, HBel.out.grown k4 HBel.out.size (fun j hj => (hr.lt j hj).1)⟩
        · rw [List.length_append]
          simpa [strs] using k3
        · intro z hz
          rcases List.mem_append.1 hz with hz | hz
          · exact h7 z hz
          · simp at hz; subst hz; exact List.mem_of_getElem? hy
      clear hk hlen hmem hbel hc0 hx hp cP hy hl hin h1
      go_wp2_with fail
      refine (HP.out _).mono ?_
      rintro e w' ⟨rfl, rfl⟩
      go_wp2_with (at_builtin; refine wpList_append_own _ rfl _ _ 38 rfl W.heap.size 24 i0 (.string ⟨#[]⟩) 1 16 Try.underlying38 hi hz0 hz1 hz2 rfl (by decide) _ _ _ rfl (hr.alloc _) ⟨wr.heap.size, 0, none⟩ 1 1 [.string ⟨y.toArray⟩] rfl rfl (cell_one_new _ _ _) (by simp [Value.oneCell']) (by unfold maxLen; omega) (by omega) (by simp; omega) ?_; intro v2 w4 hown' hgrow _)
      go_roundg (gk - 1)
      case measure => exact hgk
      case rel => exact hRel.out v2 w4 hown' (grown_trans (World.grownBy_alloc wr _ u5.ownBlock) hgrow)
    · have hfin : Hid (SomeOut W ts (.returned u5) wr) := by
        obtain ⟨h5, h6, h7⟩ := HK.out
        exact ⟨u5, ks, rfl, hr, by omega, h7, HBel.out⟩
      have hks : ks.length ≤ 12 := by omega
      clear hr hmem hbel hk hlen
      by_cases h2 : i < n
      · have i1 : (i : Int) < (n : Int) := by omega
        have i2 : ¬ ((i : Int) < 12) := by omega
        have d1 : decide ((i : Int) < (n : Int)) = true := by simpa using i1
        have d2 : decide ((i : Int) < 12) = false := by simp; omega
        go_wp2
        all_goals first
          | omega
          | (go_ret; exact hfin.out)
      · have i1 : ¬ ((i : Int) < (n : Int)) := by omega
        have d1 : decide ((i : Int) < (n : Int)) = false := by simp; omega
        go_wp2
        all_goals first
          | omega
          | (go_ret; exact hfin.out)

end Go.Proofs.Ytloheongiceliaa.L3
end

section
namespace Go.Proofs.Ytloheongiceliaa.L3
open Go.ChangeShapes Go.WideShapes Go.ChangeAt Go.RowKit

/-- The row of texts that is told behind the name's back, up to some place. -/
structure Hides (p : Nat) (i : Nat) (hs : List (List UInt8)) : Prop where
  safe : ∀ h ∈ hs, ¬ Tm.Out (Tm.nm p) h
  elt : i ≠ 0 → ∃ b ∈ hs, Tm.Elt [Tm.nm p] b
  few : hs.length ≤ 7 * i
  short : ∀ h ∈ hs, h.length ≤ 700

theorem hides_none (p : Nat) : Hides p 0 [] := ⟨by simp, fun h => absurd rfl h, by simp, by simp⟩
theorem hides_next {p i : Nat} {hs : List (List UInt8)} {k b c : List UInt8} (h : Hides p i hs) (h1 : 900 ≤ p) (h2 : p < 990) (hk : Lo.Tm.Good 41 600 k) (hb : Tm.Elt [Tm.nm p] b) (hc : Tm.PowFact b k c) :
    Hides p (i + 1) (hs ++ [104 :: k, b, 107 :: b, 104 :: Tm.nm p, k] ++ [c] ++ [115 :: (Tm.nm p ++ (k ++ Tm.nm p))]) := by
  have hkb := hb.kind (by simp)
  have hbl : b.length ≤ 11 := by have := hb.size; simp [Tm.nm_len] at this; omega
  have hgp : Tm.Good 41 600 (Tm.nm p) := (Tm.good_name p).mono (by omega) (by omega)
  obtain ⟨j, _, _, _, _, hce⟩ := hc
  have hcl : c.length ≤ 700 := by
    have hl := congrArg List.length hce
    simp only [List.length_cons] at hl
    have h3 := (Tm.ins_perm (Tm.ofL b) j k).flatten.length_eq
    have h4 := (hb.perm.append_right [k]).flatten.length_eq
    have h5 := hk.2.2
    have h6 : ([Tm.nm p] ++ [k]).flatten.length = 9 + k.length := by simp [Tm.nm_len]
    omega
  have hnk : ∀ {t : List UInt8}, t.getD 0 0 ≠ 110 → t ≠ Tm.nm p := fun h e => h (by rw [e]; rfl)
  refine ⟨?_, fun _ => ⟨b, by simp, hb⟩, by have := h.few; simp; omega, ?_⟩
  · intro t ht ho
    simp only [List.mem_append, List.mem_cons, List.not_mem_nil, or_false] at ht
    rcases ht with ((ht | ht | ht | ht | ht | ht) | ht) | ht
    · exact h.safe t ht ho
    · subst ht
      exact hnk (by simp) (Tm.out_kind ho (by simp))
    · subst ht
      exact hnk (by rw [hkb]; decide) (Tm.out_kind ho (by rw [hkb]; decide))
    · subst ht
      exact hnk (by simp) (Tm.out_kind ho (by simp))
    · subst ht
      exact hnk (by simp) (Tm.out_kind ho (by simp))
    · subst ht
      exact hk.2.1.2.not_out h1 h2 ho
    · have hck : t.getD 0 0 = 101 := by rw [ht, hce]; rfl
      exact hnk (by rw [hck]; decide) (Tm.out_kind ho (by rw [hck]; decide))
    · have e3 : Tm.ofL t = [Tm.nm p, k, Tm.nm p] := by rw [ht]; exact Tm.ofL_three hgp.1 hk.1 hgp.1
      have k3 : t.getD 0 0 = 115 := by rw [ht]; rfl
      clear ht
      cases ho with
      | self => exact hnk (by rw [k3]; decide) rfl
      | pair hx _ _ => rw [k3] at hx; exact absurd hx (by decide)
      | sign hx _ _ => rw [k3] at hx; exact absurd hx (by decide)
      | nonce _ hp ho =>
        rw [e3] at hp
        simp at hp
        subst hp
        exact hk.2.1.2.not_out h1 h2 ho
      | text _ h0 hx _ _ =>
        rw [e3] at h0
        simp at h0
        exact hx h0.symm
  · intro t ht
    have h5 := hk.2.2
    simp only [List.mem_append, List.mem_cons, List.not_mem_nil, or_false] at ht
    rcases ht with ((ht | ht | ht | ht | ht | ht) | ht) | ht
    · exact h.short t ht
    all_goals subst ht
    · simp; omega
    · omega
    · simp; omega
    · simp [Tm.nm_len]
    · omega
    · exact hcl
    · simp [Tm.nm_len]; omega

theorem news_new (w : World) (xs : List (List UInt8)) (t : TypeId) : ∀ j u, (strs xs)[j]? = some u → (w.alloc (.cells (strs xs).toArray t)).cell? ((⟨w.heap.size, 0, none⟩ : Addr).add j) = some u := by
  intro j u hu
  simp only [strs, List.getElem?_map, Option.map_eq_some_iff] at hu
  obtain ⟨x, hx, rfl⟩ := hu
  have h := text_cells (w := w.alloc (.cells (strs xs).toArray t)) (g := w.heap.size) (xs := xs) (t := t) (heap_alloc_new w _) j x hx
  unfold Addr.add
  split
  · rename_i h0; subst h0; exact h
  · simpa using h
theorem strs_one3 (ps : List (List UInt8)) : ∀ u ∈ strs ps, u.oneCell' = true := fun u hu => by
  obtain ⟨x, _, rfl⟩ := List.mem_map.1 hu
  rfl

/-- append of whatever row of texts onto a slice that the call owns, whatever the guard that stands. -/
theorem wpList_append_row {P : Program} {w : World} {ops : Array Oper} {rest : List Oper} {o : Oper} {a : Act} {Q : Exit → Act → World → Prop} (hw : Region.wanted o (yielded ops a.tmps) = true) (s x : Operand) (t : TypeId)
    (ho : o.op = .call { callee := .builtin .append, args := #[s, x], argTypes := #[t, t] })
    (base : Nat) (e : TypeId) (i : TypeInfo) (z : Value) (bytes : Nat) (ht : P.underlying t = some (.slice e)) (hi : P.info? e = some i) (hz : i.zero = some z)
    (hsize : i.size = 1) (hby : i.bytes = bytes) (hzs : z.cells.size = 1)
    (v : Value) (n : Nat) (xs : List Value) (hs : a.eval s = v) (hown : w.ownsRow base e 1 v n xs)
    (B : Nat) (vx : Value) (zs : List (List UInt8)) (hx : a.eval x = vx) (hsrc : w.ownsRow B e 1 vx zs.length (strs zs))
    (h63 : n + zs.length ≤ maxLen) (hbytes : (n + zs.length) * bytes ≤ 140737488355328) (hbase : base ≤ w.heap.size)
    (h : ∀ v' w', w'.ownsRow base e 1 v' (n + zs.length) (xs ++ strs zs) → w.grownBy w' v.ownBlock → wpList P ops Q rest (a.put o.dst v') w') :
    wpList P ops Q (o :: rest) a w := by
  refine wpList_step fun K hK => ?_
  rw [if_pos hw]
  rcases hsrc.2 with ⟨rfl, h0⟩ | ⟨g, cap, cur, rfl, _⟩
  · obtain rfl : zs = [] := List.length_eq_zero_iff.1 h0
    have hrun := run_append_owned_none (P := P) (w := w) base t o.type e i 1 ht hi v n xs hown
    unfold Oper.wp execOp
    simp only [ho, resolve, invoke, builtin, Sem.run_bind, Sem.run_pure, Result.andThen_ok, List.map_toArray, List.map_cons, List.map_nil, hs, hx, hrun]
    exact hK _ _ (h v w (by simpa [strs] using hown) (grown_refl _ _))
  · have hT := texts_of_row hsrc
    obtain ⟨v', w', hr, h2, h3, _⟩ := run_append_own (P := P) w base t o.type e i z 1 bytes ht hi hz hsize hby hzs (by decide) v n xs hown ⟨g, 0, none⟩ zs.length cap (strs zs) (by simp [strs]) (fun j u hu => by
      simp only [strs, List.getElem?_map, Option.map_eq_some_iff] at hu
      obtain ⟨y, hy, rfl⟩ := hu
      have h1 := hT j y hy
      unfold Addr.add
      split
      · rename_i h0; subst h0; exact h1
      · simpa using h1) (strs_one3 zs) h63 hbytes hbase
    unfold Oper.wp execOp
    simp only [ho, resolve, invoke, builtin, Sem.run_bind, Sem.run_pure, Result.andThen_ok, List.map_toArray, List.map_cons, List.map_nil, hs, hx, hr]
    exact hK _ _ (h v' w' h2 h3)

end Go.Proofs.Ytloheongiceliaa.L3
end

section
namespace Go.Proofs.Ytloheongiceliaa.L3
open Go.ChangeShapes Go.WideShapes Go.ChangeAt Go.RowKit

/-- The key of an element of one name. -/
theorem key_elt {p : Nat} {b : List UInt8} (hb : Tm.Elt [Tm.nm p] b) : (∀ W : World, Calls Try.prog 22 #[.string ⟨b.toArray⟩] W (One W (.tuple #[.string ⟨(107 :: b).toArray⟩, .int .i64 0]))) ∧ Tm.right (107 :: b) = true ∧ b.length ≤ 11 := by
  have hbl : b.length ≤ 11 := by have := hb.size; simp [Tm.nm_len] at this; omega
  have hgd := elt_depth hb (by intro x hx; simp at hx; subst hx; rw [Tm.nm_depth]; omega)
  have hput : Tm.put [107] [b] = (107 :: b, 0) := by
    have := Tm.put_ok (hd := [107]) (ps := [b]) (by intro p hp; simp at hp; subst hp; exact (Tm.right_iff _).1 hb.right) (by unfold Tm.total; simp; omega) (by
      have := Tm.maxDepth_bound (k := 2) (ps := [b]) (by intro p hp; simp at hp; subst hp; exact hgd)
      omega)
    simpa using this
  refine ⟨fun W => ?_, (Tm.right_iff _).2 (Tm.good_key hput hb.elem hgd).2.2.1, hbl⟩
  have cKey := Key_calls ⟨b.toArray⟩ (by rw [size_list]; unfold maxLen; omega) (by rw [list_data]; exact hb.elem) W
  simp only at cKey
  rw [hput] at cKey
  exact cKey

def Hiding (V : World) (p m k : Nat) (v11 v12 : Value) (wr : World) : Prop :=
  ∃ (i : Nat) (hs : List (List UInt8)), k + i = m ∧ v12 = .int .i64 i ∧ Hides p i hs ∧ wr.ownsRow V.heap.size 24 1 v11 hs.length (strs hs) ∧ Below V.heap.size V wr

set_option maxRecDepth 100000 in
set_option maxHeartbeats 40000000 in
theorem secret_all (HD : DerivableHolds) (A : Option Addr) (n c : Nat) (B : Option Addr × Nat × Nat) (a2 : Int) (w : World) (hS : Steps w A n) (hnc : n ≤ maxLen) (hI : IRow w B.1 B.2.1) (hno : B.2.1 ≤ maxLen) (r2 : isInt a2) :
    Calls Try.prog 4 #[.slice A n c, .slice B.1 B.2.1 B.2.2, .int .i64 a2] w (One w (.bool true)) := by
  obtain ⟨A2, n2, c2⟩ := B
  obtain ⟨i0, hi, hz0, hz1, hz2⟩ := info_parts info_term
  have HSh := Lib.hid shown_calls
  have HSt := Lib.hid hS
  have HNC := Lib.hid (And.intro hnc hno)
  have HI := Lib.hid hI
  have HDD := Lib.hid HD
  have hp9 := Tm.pickN_lt a2 90 (by omega)
  have cP := fun W => pick_calls a2 90 r2.1 r2.2 (by omega) (by omega) W
  obtain ⟨q, hq⟩ : ∃ q, Tm.pickN a2 90 = q := ⟨_, rfl⟩
  rw [hq] at hp9 cP
  have cP' : ∀ W : World, Calls Try.prog 19 #[.int .i64 a2, .int .i64 90] W fun e w' => e = .returned (.int .i64 q) ∧ W = w' := cP
  have HP := Lib.hid cP'
  obtain ⟨p, hp⟩ : ∃ p, 900 + q = p := ⟨_, rfl⟩
  have k1 : IntKind.i64.wrap (900 + (q : Int)) = (p : Int) := by rw [IntKind.wrap_i64]; omega
  have k2 : IntKind.u64.wrap (p : Int) = (p : Int) := by simp [IntKind.wrap, IntKind.bits, IntKind.signed]; omega
  have hp1 : 900 ≤ p := by omega
  have hp2 : p < 990 := by omega
  have HN : Hid (∀ W : World, Calls Try.prog 11 #[.int .u64 (p : Int)] W (One W (.string ⟨(Tm.nm p).toArray⟩))) := fun W => Name_calls p (by omega) W
  have HGen : Hid (∀ W : World, Calls Try.prog 15 #[] W (One W (.string ⟨[103].toArray⟩))) := fun W => Gen_calls W
  have HPb : Hid (∀ W, Calls Try.prog 21 #[.string ⟨[103].toArray⟩, .string ⟨(Tm.nm p).toArray⟩] W (EltOut W ([] ++ [Tm.nm p]))) := fun W => pow_elt p Tm.elt_gen (by simp) (by simp) (by simp) W
  have hgp : Tm.Good 41 600 (Tm.nm p) := (Tm.good_name p).mono (by omega) (by omega)
  have HHx := Lib.hid (fun W => hash_fine hgp W)
  have HKg : Hid (∀ b, Tm.Elt [Tm.nm p] b → (∀ W : World, Calls Try.prog 22 #[.string ⟨b.toArray⟩] W (One W (.tuple #[.string ⟨(107 :: b).toArray⟩, .int .i64 0]))) ∧ Tm.right (107 :: b) = true ∧ b.length ≤ 11) := fun b hb => key_elt hb
  have HSl : Hid (∀ k, Tm.Good 41 600 k → ∀ W : World, Calls Try.prog 23 #[.string ⟨(Tm.nm p).toArray⟩, .string ⟨k.toArray⟩, .string ⟨(Tm.nm p).toArray⟩] W (One W (.tuple #[.string ⟨(115 :: (Tm.nm p ++ (k ++ Tm.nm p))).toArray⟩, .int .i64 0]))) := fun k hk W => three_fine hgp hk hgp W
  have HPc : Hid (∀ k b, Tm.Good 41 600 k → Tm.Elt [Tm.nm p] b → ∀ W, Calls Try.prog 21 #[.string ⟨b.toArray⟩, .string ⟨k.toArray⟩] W (PowGood W b k)) := fun k b hk hb W =>
    pow_good hb.right ((Tm.right_iff _).2 hk.1) hb.elem (by rw [hb.perm.length_eq]; simp) (by have h1 := (key_elt hb).2.2; have h2 := hk.2.2; omega) (by
      have := elt_depth hb (by intro x hx; simp at hx; subst hx; rw [Tm.nm_depth]; omega)
      omega) (by have := hk.2.1; omega) W
  have HNx : Hid (Hides p 0 [] ∧ (∀ {i hs k b c}, Hides p i hs → Lo.Tm.Good 41 600 k → Tm.Elt [Tm.nm p] b → Tm.PowFact b k c → Hides p (i + 1) (hs ++ [104 :: k, b, 107 :: b, 104 :: Tm.nm p, k] ++ [c] ++ [115 :: (Tm.nm p ++ (k ++ Tm.nm p))]))) := ⟨hides_none p, fun h1 h2 h3 h4 => hides_next h1 hp1 hp2 h2 h3 h4⟩
  have HNot : Hid (∀ {K : List UInt8 → Prop}, (∀ x, K x → ¬ Tm.Out (Tm.nm p) x) → ¬ Tm.Mk K (Tm.nm p)) := fun h => Tm.not_made h
  have HCl : Hid (Tm.Closed (fun t => ¬ Tm.Out (Tm.nm p) t) ∧ Tm.right (Tm.nm p) = true ∧ (Tm.nm p).length = 9) := ⟨Tm.out_closed p, Tm.nm_right p, Tm.nm_len p⟩
  clear hS hnc hno hI HD cP cP' hq hp hp9 r2 hgp
  generalize hxp : Tm.nm p = x at *
  go_enter Try.func4, Try.ntmps4
  go_wp2_with fail
  refine (HSh.out _).mono ?_
  rintro e' w0 ⟨rfl, B0⟩
  have HM := Lib.hid (Lo.made_calls A n c w0 (steps_below HSt.out B0) HNC.out.1)
  go_wp2_with fail
  refine HM.out.mono ?_
  rintro e' w1 ⟨g, cap, ts, rfl, hrow, hlen, hgood, hb1⟩
  have B1 := B0.trans (hb1.mono B0.size)
  have HSm := Lib.hid (some_calls hrow (by omega) (by omega) A2 n2 c2 (HI.out.below B1) HNC.out.2)
  have HGd := Lib.hid hgood
  clear hrow hlen hgood hb1 HM HSt
  go_wp2_with fail
  refine HSm.out.mono ?_
  rintro e' w2 ⟨v9, ks, rfl, hrk, hk12, hmem, b2⟩
  have B2 := B1.trans (b2.mono B1.size)
  obtain ⟨A9, c9, rfl, h9⟩ := reads_terms hrk
  have H9 := Lib.hid h9
  have HKs : Hid (∀ k ∈ ks, Lo.Tm.Good 41 600 k) := fun k hk => HGd.out k (hmem k hk)
  clear hrk hmem b2 B1 B0 HSm HGd HI HNC h9
  go_wp2_with fail
  refine (HP.out _).mono ?_
  rintro e' w' ⟨rfl, rfl⟩
  go_wp2_with fail
  refine (HN.out _).mono ?_
  rintro e' w3 ⟨rfl, b3⟩
  have HB3 := Lib.hid (B2.trans (b3.mono B2.size))
  have Hb3 := Lib.hid b3
  clear B2 b3 HP HN k1 k2
  go_wp2
  go_loopg [11, 12] ks.length (fun k v11 v12 wr => Hiding w3 p ks.length k v11 v12 wr)
  case atStart => exact ⟨0, [], by omega, rfl, HNx.out.1, World.ownsRow_nil _ _ _ _, Below.refl _ _⟩
  case round =>
    obtain ⟨i, hs, hk, rfl, hH, hrow, hbel⟩ := hrel
    have HK := Lib.hid hk
    have HBel := Lib.hid hbel
    have HHs := Lib.hid hH
    have hfew := hH.few
    by_cases hil : i < ks.length
    · obtain ⟨k, hx⟩ : ∃ k, ks[i]? = some k := ⟨_, List.getElem?_eq_getElem hil⟩
      obtain ⟨g9, rfl, hgl, hck⟩ := H9.out i k hx
      have hGk := HKs.out k (List.mem_of_getElem? hx)
      have HC : Hid (∀ V : World, Below w3.heap.size w3 V → V.cell? ⟨g9, i, none⟩ = some (.string ⟨k.toArray⟩)) := fun V hV =>
        (hV.cell (p := ⟨g9, i, none⟩) (Nat.lt_of_lt_of_le hgl Hb3.out.size)).trans ((Hb3.out.cell (p := ⟨g9, i, none⟩) hgl).trans hck)
      have c4 := HC.out wr hbel
      have HHk := Lib.hid (fun W => hash_fine hGk.base W)
      have HSk := Lib.hid (HSl.out k hGk.base)
      have HPk := Lib.hid (fun b hb => HPc.out k b hGk.base hb)
      have HGk := Lib.hid hGk
      have HRow := Lib.hid hrow
      have j1 : (i : Int) < (ks.length : Int) := by omega
      have j2 : (0 : Int) ≤ (i : Int) := by omega
      have hgk : gk - 1 < gk := by omega
      have hh84 : hs.length ≤ 84 := by omega
      clear hk hH hrow hbel hfew hx hck hgl hGk
      go_wp2_with fail
      refine (HHk.out _).mono ?_
      rintro e w4 ⟨rfl, b4⟩
      have B4 := HBel.out.trans (b4.mono HBel.out.size)
      go_wp2_with fail
      refine (HGen.out _).mono ?_
      rintro e w5 ⟨rfl, b5⟩
      have B5 := B4.trans (b5.mono B4.size)
      go_wp2_with fail
      refine (HPb.out _).mono ?_
      rintro e w6 ⟨b, rfl, hb, b6⟩
      have hb' : Tm.Elt [x] b := hb
      have B6 := B5.trans (b6.mono B5.size)
      have c6 := HC.out w6 B6
      have HPkb := Lib.hid (HPk.out b hb')
      obtain ⟨hK1, _, hbl⟩ := HKg.out b hb'
      have HKb := Lib.hid hK1
      have HEb := Lib.hid hb'
      have b46 := (b4.trans (b5.mono b4.size)).trans (b6.mono (Nat.le_trans b4.size b5.size))
      have hr6 := ownsRow_below HRow.out b46
      clear hb hb' hK1 B4 B5 b4 b5 b6 b46 HRow
      have HRow := Lib.hid hr6
      have HB6 := Lib.hid B6
      clear hr6 B6
      go_wp2_with fail
      refine (HPkb.out _).mono ?_
      rintro e w7 ⟨cc, rfl, hcc, b7⟩
      have HCc := Lib.hid hcc
      go_wp2_with fail
      refine (HKb.out _).mono ?_
      rintro e w8 ⟨rfl, b8⟩
      have b78 := b7.trans (b8.mono b7.size)
      have c8 := HC.out w8 (HB6.out.trans (b78.mono HB6.out.size))
      clear hcc
      go_wp2_with fail
      refine (HSk.out _).mono ?_
      rintro e w9 ⟨rfl, b9⟩
      go_wp2_with fail
      refine (HHx.out _).mono ?_
      rintro e w10 ⟨rfl, b10⟩
      have b610 := (b78.trans (b9.mono b78.size)).trans (b10.mono (Nat.le_trans b78.size b9.size))
      have hr10 := ownsRow_below HRow.out b610
      have B10 := HB6.out.trans (b610.mono HB6.out.size)
      have c10 := HC.out w10 B10
      have HB10 := Lib.hid B10
      have hs10 : w3.heap.size ≤ w10.heap.size := B10.size
      have HNew := Lib.hid (HNx.out.2 HHs.out HGk.out HEb.out HCc.out)
      clear b7 b8 b78 b9 b10 b610 B10 HRow c4 c6 c8
      go_upto_region 18 with (at_builtin; refine wpList_append_own _ rfl _ _ 38 rfl w3.heap.size 24 i0 (.string ⟨#[]⟩) 1 16 Try.underlying38 hi hz0 hz1 hz2 rfl (by decide) _ _ _ rfl (hr10.alloc _) ⟨w10.heap.size, 0, none⟩ 5 5 (strs [104 :: k, b, 107 :: b, 104 :: x, k]) rfl rfl (news_new _ _ _) (strs_one3 _) (by unfold maxLen; omega) (by omega) (by simp; omega) ?_; intro v11 w11 hown11 hgrow11 _)
      have hg11 : w10.grownBy w11 u11.ownBlock := grown_trans (World.grownBy_alloc w10 _ u11.ownBlock) hgrow11
      have HB11 : Hid (Below w3.heap.size w3 w11) := HB10.out.grown hg11 HB10.out.size (fun j hj => (hr10.lt j hj).1)
      have hs11 : w3.heap.size ≤ w11.heap.size := HB11.out.size
      have hr11 : w11.ownsRow w3.heap.size 24 1 v11 (hs ++ [104 :: k, b, 107 :: b, 104 :: x, k]).length (strs (hs ++ [104 :: k, b, 107 :: b, 104 :: x, k])) := by
        rw [List.length_append, strs, List.map_append]
        exact hown11
      clear hown11 hgrow11 hg11 hr10 hs10 HB10 c10
      have hl11 : (hs ++ [104 :: k, b, 107 :: b, 104 :: x, k]).length ≤ 90 := by simp; omega
      generalize hs ++ [104 :: k, b, 107 :: b, 104 :: x, k] = h5 at *
      go_upto_region 20 with (at_builtin; refine wpList_append_own _ rfl _ _ 38 rfl w3.heap.size 24 i0 (.string ⟨#[]⟩) 1 16 Try.underlying38 hi hz0 hz1 hz2 rfl (by decide) _ _ _ rfl (hr11.alloc _) ⟨w11.heap.size, 0, none⟩ 1 1 (strs [cc]) rfl rfl (news_new _ _ _) (strs_one3 _) (by unfold maxLen; omega) (by omega) (by simp; omega) ?_; intro v12 w12 hown12 hgrow12 _)
      have hg12 : w11.grownBy w12 v11.ownBlock := grown_trans (World.grownBy_alloc w11 _ v11.ownBlock) hgrow12
      have HB12 : Hid (Below w3.heap.size w3 w12) := HB11.out.grown hg12 HB11.out.size (fun j hj => (hr11.lt j hj).1)
      have hs12 : w3.heap.size ≤ w12.heap.size := HB12.out.size
      have hr12 : w12.ownsRow w3.heap.size 24 1 v12 (h5 ++ [cc]).length (strs (h5 ++ [cc])) := by
        rw [List.length_append, strs, List.map_append]
        exact hown12
      clear hown12 hgrow12 hg12 hr11 hs11 HB11
      have hl12 : (h5 ++ [cc]).length ≤ 91 := by simp; omega
      generalize h5 ++ [cc] = h6 at *
      have hRel : Hid (∀ (v2 : Value) (w13 : World), w13.ownsRow w3.heap.size 24 1 v2 (h6.length + 1) (strs h6 ++ strs [115 :: (x ++ (k ++ x))]) → w12.grownBy w13 v12.ownBlock → Hiding w3 p ks.length (gk - 1) v2 (.int .i64 ((i + 1 : Nat) : Int)) w13) := by
        intro v2 w13 k3 k4
        refine ⟨i + 1, _, by have := HK.out; omega, rfl, HNew.out, ?_, HB12.out.grown k4 HB12.out.size (fun j hj => (hr12.lt j hj).1)⟩
        rw [List.length_append, strs, List.map_append]
        exact k3
      clear HB12 HNew
      go_wp2_with (at_builtin; refine wpList_append_own _ rfl _ _ 38 rfl w3.heap.size 24 i0 (.string ⟨#[]⟩) 1 16 Try.underlying38 hi hz0 hz1 hz2 rfl (by decide) _ _ _ rfl (hr12.alloc _) ⟨w12.heap.size, 0, none⟩ 1 1 (strs [115 :: (x ++ (k ++ x))]) rfl rfl (news_new _ _ _) (strs_one3 _) (by unfold maxLen; omega) (by omega) (by simp; omega) ?_; intro v13 w13 hown13 hgrow13 _)
      go_roundg (gk - 1)
      case measure => exact hgk
      case rel => exact hRel.out v13 w13 hown13 (grown_trans (World.grownBy_alloc w12 _ v12.ownBlock) hgrow13)
    · obtain rfl : i = ks.length := by omega
      have j1 : ¬ ((ks.length : Int) < (ks.length : Int)) := by omega
      have hfl : hs.flatten.length ≤ 84 * 700 := by
        have h1 := flat_le (b := 700) hH.short
        have h2 : hs.length * 700 ≤ 84 * 700 := Nat.mul_le_mul_right _ (by omega)
        omega
      have hlen : hs.length ≤ 84 := by omega
      obtain ⟨hclosed, hxr, hxl⟩ := HCl.out
      have D1 := Lib.hid (fun W v (hR : Reads W v hs) => (HDD.out hs x v W hR (by omega) (by omega) (by omega)).mono (fun e w' (q : DerG W hs x e w') => show One W (.bool false) e w' from by
        obtain ⟨b, K, rfl, hb, _, _, h5, _, h7⟩ := q
        have hKS := h5 _ hclosed (fun z hz _ => by rw [← hxp]; exact HHs.out.safe z hz)
        have hno := HNot.out hKS
        cases b with
        | true => exact absurd (hb.1 rfl).2 hno
        | false => exact ⟨rfl, h7⟩))
      have hfx : (hs ++ [x]).flatten.length ≤ 200000 := by
        have h1 : (hs ++ [x]).flatten.length = hs.flatten.length + x.length := by simp
        omega
      have D2 := Lib.hid (fun W v (hR : Reads W v (hs ++ [x])) => (HDD.out (hs ++ [x]) x v W hR (by simp; omega) hfx (by omega)).mono (fun e w' (q : DerG W (hs ++ [x]) x e w') => show One W (.bool true) e w' from by
        obtain ⟨b, K, rfl, hb, _, h4, _, _, h7⟩ := q
        rw [hb.2 ⟨hxr, .known (h4 x (by simp) hxr)⟩]
        exact ⟨rfl, h7⟩))
      have D3 : Hid (ks.length ≠ 0 → ∀ y, Tm.Elt [x] y → ∀ W v, Reads W v hs → Calls Try.prog 24 #[v, .string ⟨y.toArray⟩] W (One W (.bool true)) ∧ Calls Try.prog 24 #[v, .string ⟨(107 :: y).toArray⟩] W (One W (.bool true))) := by
        intro hne y hy W v hR
        obtain ⟨_, hkr, hyl⟩ := HKg.out y hy
        obtain ⟨b0, hb0, hE0⟩ := HHs.out.elt hne
        rw [hxp] at hE0
        have hmk : ∀ K : List UInt8 → Prop, (∀ z ∈ hs, Tm.right z = true → K z) → Tm.Mk K y := fun K hK =>
          Tm.mk_elt_yes (rest := []) hy (by simp) hE0 (by simp) (hK b0 hb0 hE0.right) (by simp) (by simp)
        constructor
        · refine (HDD.out hs y v W hR (by omega) (by omega) (by omega)).mono (fun e w' (q : DerG W hs y e w') => show One W (.bool true) e w' from ?_)
          obtain ⟨b, K, rfl, hb, _, h4, _, _, h7⟩ := q
          rw [hb.2 ⟨hy.right, hmk K h4⟩]
          exact ⟨rfl, h7⟩
        · refine (HDD.out hs (107 :: y) v W hR (by omega) (by omega) (by simp; omega)).mono (fun e w' (q : DerG W hs (107 :: y) e w') => show One W (.bool true) e w' from ?_)
          obtain ⟨b, K, rfl, hb, _, h4, _, _, h7⟩ := q
          have h8 : Tm.Mk K (107 :: y) := .parts hkr (.inl rfl) (by
            rw [Tm.ofL_key ((Tm.right_iff _).1 hy.right)]
            intro z hz
            simp at hz
            subst hz
            exact hmk K h4)
          rw [hb.2 ⟨hkr, h8⟩]
          exact ⟨rfl, h7⟩
      have HRow := Lib.hid hrow
      have HWB := Lib.hid (HB3.out.trans (hbel.mono HB3.out.size))
      clear hk hH hrow hbel hfew hclosed hxr hfl HNx HNot HPc HSl HHx HDD HKs H9 HCl hil
      go_wp2_with fail
      refine (D1.out _ _ (reads_terms HRow.out)).mono ?_
      rintro e w4 ⟨rfl, b4⟩
      have hr4 := ownsRow_below HRow.out b4
      have HB4 := Lib.hid (HWB.out.trans (b4.mono HWB.out.size))
      have hs4 : w3.heap.size ≤ w4.heap.size := Nat.le_trans HBel.out.size b4.size
      clear b4 HRow HWB D1
      have hlit : (w4.alloc (.cells #[] 24)).ownsRow w4.heap.size 24 1 (.slice (some ⟨w4.heap.size, 0, none⟩) 0 0) 0 [] :=
        ⟨rfl, .inr ⟨w4.heap.size, 0, #[], rfl, Nat.le_refl _, World.alloc_heap_new _ _, Nat.le_refl _, by decide, rfl, rfl⟩⟩
      have HLit := Lib.hid hlit
      have HR4 : Hid ((w4.alloc (.cells #[] 24)).ownsRow w3.heap.size 24 1 u11 hs.length (strs hs)) := hr4.alloc _
      have HF1 : Hid (∀ v5 w5, w5.ownsRow w4.heap.size 24 1 v5 (0 + hs.length) ([] ++ strs hs) → (w4.alloc (.cells #[] 24)).grownBy w5 (some w4.heap.size) → w5.ownsRow w4.heap.size 24 1 v5 hs.length (strs hs) ∧ Below w4.heap.size w4 w5) := by
        intro v5 w5 h1 h2
        rw [Nat.zero_add, List.nil_append] at h1
        have hga : w4.grownBy w5 (some w4.heap.size) := grown_trans (World.grownBy_alloc w4 _ (some w4.heap.size)) h2
        exact ⟨h1, hga.os, hga.tape, hga.output, hga.size, fun k hk => hga.block k hk (fun e => by cases e; omega)⟩
      have HF2 : Hid (∀ v5 w5 v6 w6, w5.ownsRow w4.heap.size 24 1 v5 hs.length (strs hs) → Below w4.heap.size w4 w5 → w6.ownsRow w4.heap.size 24 1 v6 (hs.length + [x].length) (strs hs ++ strs [x]) → (w5.alloc (.cells #[.string ⟨x.toArray⟩] 24)).grownBy w6 v5.ownBlock →
          Reads w6 v6 (hs ++ [x]) ∧ Below w4.heap.size w4 w6) := by
        intro v5 w5 v6 w6 h1 h2 h3 h4
        have hg : w5.grownBy w6 v5.ownBlock := grown_trans (World.grownBy_alloc w5 _ v5.ownBlock) h4
        refine ⟨reads_terms (B := w4.heap.size) ?_, h2.grown hg h2.size (fun j hj => (h1.lt j hj).1)⟩
        rw [List.length_append, strs, List.map_append]
        exact h3
      have HRw := Lib.hid hr4
      clear hlit hr4
      go_wp2_with (at_builtin; first
        | (refine wpList_append_row (by rfl) (.tmp 120) (.tmp 122) 38 rfl w4.heap.size 24 i0 (.string ⟨#[]⟩) 16 Try.underlying38 hi hz0 hz1 hz2 rfl v5 hs.length (strs hs) (by simp [Act.eval]) (X5.out.1.alloc _) w5.heap.size (.slice (some ⟨w5.heap.size, 0, none⟩) 1 1) [x] (by simp [Act.eval]) (World.ownsRow_lit (base := w5.heap.size) (size := 1) w5 _ 1 (Nat.le_refl _) (by unfold maxLen; omega) rfl) (by unfold maxLen; simp; omega) (by simp; omega) (by have := X5.out.2.size; simp; omega) ?_; intro v6 w6 hown6 hgrow6; have X6 := Lib.hid (HF2.out v5 w5 v6 w6 X5.out.1 X5.out.2 hown6 hgrow6); clear hown6 hgrow6)
        | (refine wpList_append_row (by rfl) (.tmp 118) (.tmp 119) 38 rfl w4.heap.size 24 i0 (.string ⟨#[]⟩) 16 Try.underlying38 hi hz0 hz1 hz2 rfl (.slice (some ⟨w4.heap.size, 0, none⟩) 0 0) 0 [] (by simp [Act.eval]) HLit.out w3.heap.size u11 hs (by simp [Act.eval]) HR4.out (by unfold maxLen; omega) (by omega) (by simp) ?_; intro v5 w5 hown5 hgrow5; have X5 := Lib.hid (HF1.out v5 w5 hown5 hgrow5); clear hown5 hgrow5))
      refine (D2.out _ _ X6.out.1).mono ?_
      rintro e w7 ⟨rfl, b7⟩
      have b47 := X6.out.2.trans (b7.mono X6.out.2.size)
      have HR7 := Lib.hid (ownsRow_below HRw.out b47)
      have HB7 := Lib.hid (HB4.out.trans (b47.mono HB4.out.size))
      clear b7 b47 X6 X5 HRw HF1 HF2 HLit HR4 HB4 D2
      go_wp2_with fail
      refine (HGen.out _).mono ?_
      rintro e w8 ⟨rfl, b8⟩
      go_wp2_with fail
      refine (HPb.out _).mono ?_
      rintro e w9 ⟨y, rfl, hy, b9⟩
      have hy' : Tm.Elt [x] y := hy
      obtain ⟨hK1, hkr, hyl⟩ := HKg.out y hy'
      have HKy := Lib.hid hK1
      have HD3 : Hid (ks.length ≠ 0 → ∀ W v, Reads W v hs → Calls Try.prog 24 #[v, .string ⟨y.toArray⟩] W (One W (.bool true)) ∧ Calls Try.prog 24 #[v, .string ⟨(107 :: y).toArray⟩] W (One W (.bool true))) := fun h W v hR => D3.out h y hy' W v hR
      have cK := fun W => Kind_calls ⟨(107 :: y).toArray⟩ (by rw [size_list]; unfold maxLen; simp; omega) W
      have hkind : Tm.kindOf (107 :: y) = 107 := by unfold Tm.kindOf; rw [if_pos hkr]; rfl
      rw [list_data, hkind] at cK
      have HKd := Lib.hid cK
      have b79 := b8.trans (b9.mono b8.size)
      clear hy hy' hK1 hkr b8 b9 D3 cK hkind
      go_wp2_with fail
      refine (HKy.out _).mono ?_
      rintro e w10 ⟨rfl, b10⟩
      have b710 := b79.trans (b10.mono b79.size)
      have HR10 := Lib.hid (ownsRow_below HR7.out b710)
      have HB10 := Lib.hid (HB7.out.trans (b710.mono HB7.out.size))
      clear b79 b10 b710 HR7 HB7 HKy
      by_cases h0 : ks.length = 0
      · have q0 : ((ks.length : Int) == 0) = true := by simp [h0]
        clear HD3 HKd
        go_wp2
        go_ret
        exact ⟨by simp, HB10.out⟩
      · have q0 : ((ks.length : Int) == 0) = false := by rw [beq_eq_false_iff_ne]; omega
        have HD := Lib.hid (HD3.out h0)
        clear HD3
        go_wp2_with fail
        refine (HD.out _ _ (reads_terms HR10.out)).1.mono ?_
        rintro e w11 ⟨rfl, b11⟩
        have HR11 := Lib.hid (ownsRow_below HR10.out b11)
        have HB11 := Lib.hid (HB10.out.trans (b11.mono HB10.out.size))
        clear b11 HR10 HB10
        go_wp2_with fail
        refine (HD.out _ _ (reads_terms HR11.out)).2.mono ?_
        rintro e w12 ⟨rfl, b12⟩
        have HB12 := Lib.hid (HB11.out.trans (b12.mono HB11.out.size))
        clear b12 HR11 HB11 HD
        go_wp2_with fail
        refine (HKd.out _).mono ?_
        rintro e w13 ⟨rfl, b13⟩
        have HB13 := Lib.hid (HB12.out.trans (b13.mono HB12.out.size))
        clear b13 HB12 HKd
        go_wp2
        go_ret
        exact ⟨by simp, HB13.out⟩

end Go.Proofs.Ytloheongiceliaa.L3
end

section
namespace Go.Proofs.Ytloheongiceliaa
open Go.ChangeShapes Go.WideShapes Go.ChangeAt Go.RowKit

set_option maxRecDepth 100000 in
theorem secret_lifted (os : Os) (started : os.Started) (H : Type) (enc : TypeId × Value → H) :
    ReturnsInHanded {} Try.checked os 4 .any (Rows.knowSecretSpec.pre6 enc Try.prog Try.f4 Rows.knowSecretRow.domain false) (Rows.knowSecretSpec.post enc Try.prog Try.f4 false true false false) := by
  refine returnsInHanded_of_change (C := Try.checked) own started (by kernel_rfl) Try.func4
    (ChangeSpec.witness6 (enc := enc) (C := Try.checked) false ⟨#[], #[.slice none 0 0, .slice none 0 0, .int .i64 0], []⟩ 8 (by kernel_rfl) (by kernel_rfl) (by kernel_rfl) (by kernel_rfl)) ?_
  intro W base args ds gs before hval0 hW hcnd _
  have hval : ∀ (j : Nat) t v, Try.f4.params[j]? = some t → args[j]? = some v → Value.okWide Try.prog W .any base t v := hval0
  have hW' := hW
  obtain ⟨p, q, hA0, hV, rfl, hfz, hnd⟩ := hW
  have hA : DataW.TrodAll enc Try.prog W 0 (fun _ => true) true Try.f4.params.toList args.toList ds p := hA0
  rw [Try.params4] at hA hval
  obtain ⟨v0, vs0, d0, ds0, p0, q0, hargs, rfl, rfl, h0, r0⟩ := trodAll_cons hA
  obtain ⟨v1, vs1, d1, ds1, p1, q1, rfl, rfl, rfl, h1, r1⟩ := trodAll_cons r0
  obtain ⟨v2, vs2, d2, ds2, p2, q2, rfl, rfl, rfl, h2, r2⟩ := trodAll_cons r1
  obtain ⟨rfl, rfl, rfl⟩ := trodAll_nil r2
  obtain rfl : args = #[v0, v1, v2] := by cases args; simp_all
  obtain ⟨rfl, rfl⟩ := trodVars_none hV
  have h0k := h0
  obtain ⟨A0, n0, c0, rfl, hS0, hn0⟩ := L3.open_steps (hval 0 36 v0 rfl rfl) h0
  have h1k := h1
  obtain ⟨zs1, rfl, hI1⟩ := L3.open_irow (hval 1 37 v1 rfl rfl) h1
  obtain ⟨a2, rfl, rfl, rfl, w2⟩ := open_int Try.underlying3 (hval 2 3 v2 rfl rfl) h2
  clear hA0 hval0
  simp only [List.append_nil] at hW'
  have hlt0 : ∀ x ∈ p0, x.block < W.heap.size := fun x hx => by simpa using hW'.lt x (by simp [hx])
  have hlt1 : ∀ x ∈ p1, x.block < W.heap.size := fun x hx => by simpa using hW'.lt x (by simp [hx])
  refine (L3.secret_all (derivable_of_close Close_holds) A0 n0 c0 zs1 a2 W hS0 hn0 hI1.1 hI1.2 (i64_of_wf w2)).mono fun e W' ⟨he, hg⟩ => ?_
  subst he
  exact ⟨_, rfl, L3.post_law_at (pv := []) hW' (trodAll_cons_mk (shut_bool Try.underlying4 _) trodAll_mk0) (trodAll_cons_mk (Below.trod L3.laid_out (by kernel_rfl) (of_decide_eq_true (by kernel_rfl)) h0k hg hlt0) (trodAll_cons_mk (Below.trod L3.laid_out (by kernel_rfl) (of_decide_eq_true (by kernel_rfl)) h1k hg hlt1) (trodAll_cons_mk (shut_int Try.underlying3 w2) trodAll_mk0))) rfl (by simp) hg⟩

theorem secret_over : Rows.knowSecretRow.holds Try.pinned (OpenSpec.ofChange Rows.knowSecretSpec) :=
  OpenClaim.holds_of_wide 4 Try.f4 rfl rfl rfl rfl rfl rfl rfl ⟨rfl, rfl, rfl, rfl, rfl⟩ rfl rfl rfl rfl rfl (by kernel_rfl) Try.func4 (by kernel_rfl)
    (of_decide_eq_true (by kernel_rfl)) (by unfold Func.isWrapper; first | (rw [if_pos (by decide +kernel)]; kernel_rfl) | (rw [if_neg (by decide +kernel)]; exact ⟨rfl, rfl⟩))
    (fun os started H enc _ => secret_lifted os started H enc)

theorem secret_proved : Rows.KnowSecretSaid := secret_over

end Go.Proofs.Ytloheongiceliaa
end
