/- What comes out of a term though a name is hidden; terms in which no name from 900 on stands. Contract of the statements' own made, its terms without names from 900 on. -/
import Derived.Test.YtloheongiceliaaKShowG
import Derived.Test.YtloheongiceliaaGathA
import Derived.Test.YtloheongiceliaaMadeK3
section
namespace Go.Proofs.Ytloheongiceliaa.Tm

/-- The name x comes out of a term, if no seal of the key x is opened. -/
inductive Out (x : List UInt8) : List UInt8 → Prop where
  | self : Out x x
  | pair {t p : List UInt8} (hk : t.getD 0 0 = 112) (hp : p ∈ ofL t) (h : Out x p) : Out x t
  | sign {t p : List UInt8} (hk : t.getD 0 0 = 120) (hp : (ofL t)[1]? = some p) (h : Out x p) : Out x t
  | nonce {t p : List UInt8} (hk : t.getD 0 0 = 115) (hp : (ofL t)[1]? = some p) (h : Out x p) : Out x t
  | text {t k p : List UInt8} (hk : t.getD 0 0 = 115) (h0 : (ofL t)[0]? = some k) (hx : k ≠ x) (hp : (ofL t)[2]? = some p) (h : Out x p) : Out x t

theorem out_closed (n : Nat) : Closed (fun t => ¬ Out (nm n) t) where
  pair t ht hk p hp h := ht (.pair hk hp h)
  sign t p ht hk hp h := ht (.sign hk hp h)
  nonce t p ht hk hp h := ht (.nonce hk hp h)
  opens t k p ht hk h0 h2 hm h := by
    refine ht (.text hk h0 ?_ h2 h)
    rintro rfl
    exact mk_not (K := fun t => ¬ Out (nm n) t) (fun h => h .self) (.inl rfl) hm
/-- The name is not made of terms out of which it does not come. -/
theorem not_made {n : Nat} {K : List UInt8 → Prop} (h : ∀ x, K x → ¬ Out (nm n) x) : ¬ Mk K (nm n) := nm_not (fun hk => h _ hk .self)

theorem out_kind {x t : List UInt8} (h : Out x t) (hk : t.getD 0 0 ≠ 112 ∧ t.getD 0 0 ≠ 120 ∧ t.getD 0 0 ≠ 115) : t = x := by
  cases h with
  | self => rfl
  | pair h _ _ => exact absurd h hk.1
  | sign h _ _ => exact absurd h hk.2.1
  | nonce h _ _ => exact absurd h hk.2.2
  | text h _ _ _ _ => exact absurd h hk.2.2
theorem out_sub {x t : List UInt8} (h : Out x t) : Sub t x := by
  induction h with
  | self => exact .self _
  | pair _ hp _ ih => exact .part hp ih
  | sign _ hp _ ih => exact .part (List.mem_of_getElem? hp) ih
  | nonce _ hp _ ih => exact .part (List.mem_of_getElem? hp) ih
  | text _ _ _ hp _ ih => exact .part (List.mem_of_getElem? hp) ih

/-- No name from 900 on stands in it. -/
def Low (l : List UInt8) : Prop := ∀ x, Sub l x → ∀ j, 900 ≤ j → j < 990 → x ≠ nm j
theorem Low.not_out {l : List UInt8} (h : Low l) {j : Nat} (h1 : 900 ≤ j) (h2 : j < 990) : ¬ Out (nm j) l := fun ho => h _ (out_sub ho) j h1 h2 rfl
theorem low_of_parts {l : List UInt8} (h : l.getD 0 0 ≠ 110) (hp : ∀ p ∈ ofL l, Low p) : Low l := by
  intro x hx
  cases hx with
  | self => exact fun j _ _ e => h (by rw [e]; rfl)
  | part hq hy => exact hp _ hq x hy
theorem no_parts {l : List UInt8} (hr : depthOf l ≠ 0) (h : (headOf l).2 = 0) : ofL l = [] := by
  have hr' := (right_iff l).2 hr
  have h3 := (ofL_ok hr').2.2.1
  rw [(head_of_right hr').1, h] at h3
  exact List.length_eq_zero_iff.1 h3
theorem low_leaf {l : List UInt8} (hr : depthOf l ≠ 0) (h : l.getD 0 0 = 103 ∨ l.getD 0 0 = 117 ∨ l.getD 0 0 = 116 ∨ l.getD 0 0 = 105) : Low l := by
  refine low_of_parts (by rcases h with h | h | h | h <;> rw [h] <;> decide) ?_
  rw [no_parts hr]
  · simp
  · have hr' := (right_iff l).2 hr
    have hh := (head_of_right hr').2
    unfold headOf
    rw [if_neg (right_ne_nil hr').1]
    rcases h with h | h | h | h <;> rw [h] <;> first | rfl | (simp; done) | (simp; split <;> rfl)
theorem low_name {k : Nat} (h : k < 5) : Low (nm k) := by
  intro x hx j h1 h2
  have hg := good_name k
  cases hx with
  | self => intro e; have := nm_inj (by omega) (by omega) e; omega
  | part hp _ =>
    rw [show ofL (nm k) = [] from no_parts hg.1 (by unfold headOf nm; rfl)] at hp
    cases hp

theorem low_pair {a b l : List UInt8} (e : l = 112 :: (a ++ b)) (ha : depthOf a ≠ 0) (hb : depthOf b ≠ 0) (la : Low a) (lb : Low b) : Low l := by
  subst e
  refine low_of_parts (by simp) ?_
  rw [ofL_pair ha hb]
  intro p hp
  simp at hp
  rcases hp with rfl | rfl <;> assumption
theorem low_sign {a b l : List UInt8} (e : l = 120 :: (a ++ b)) (ha : depthOf a ≠ 0) (hb : depthOf b ≠ 0) (la : Low a) (lb : Low b) : Low l := by
  subst e
  refine low_of_parts (by simp) ?_
  rw [ofL_sign ha hb]
  intro p hp
  simp at hp
  rcases hp with rfl | rfl <;> assumption
theorem low_hash {a l : List UInt8} (e : l = 104 :: a) (ha : depthOf a ≠ 0) (la : Low a) : Low l := by
  subst e
  refine low_of_parts (by simp) ?_
  rw [ofL_hash ha]
  intro p hp
  simp at hp
  subst hp; assumption
theorem ofL_key {a : List UInt8} (ha : depthOf a ≠ 0) : ofL (107 :: a) = [a] := by
  have := ofL_node (hd := [107]) (ps := [a]) (by simp [begin_, headOf]) (by intro p hp; simp at hp; subst hp; exact ha)
  simpa using this
theorem low_key {a l : List UInt8} (e : l = 107 :: a) (ha : depthOf a ≠ 0) (la : Low a) : Low l := by
  subst e
  refine low_of_parts (by simp) ?_
  rw [ofL_key ha]
  intro p hp
  simp at hp
  subst hp; assumption
theorem low_three {a b c l : List UInt8} (e : l = 115 :: (a ++ (b ++ c))) (ha : depthOf a ≠ 0) (hb : depthOf b ≠ 0) (hc : depthOf c ≠ 0) (la : Low a) (lb : Low b) (lc : Low c) : Low l := by
  subst e
  refine low_of_parts (by simp) ?_
  rw [ofL_three ha hb hc]
  intro p hp
  simp at hp
  rcases hp with rfl | rfl | rfl <;> assumption
theorem low_part {a p : List UInt8} (la : Low a) (hp : p ∈ ofL a) : Low p := fun x hx => la x (.part hp hx)
theorem low_pow {a b l : List UInt8} (h : PowFact a b l) (la : Low a) (lb : Low b) : Low l := by
  obtain ⟨i, _, ho, _, _, e⟩ := h
  refine low_of_parts (by rw [e]; simp) ?_
  rw [ho]
  intro p hp
  simp only [ins, List.mem_append, List.mem_cons] at hp
  rcases hp with hp | rfl | hp
  · exact low_part la (List.mem_of_mem_take hp)
  · exact lb
  · exact low_part la (List.mem_of_mem_drop hp)

end Go.Proofs.Ytloheongiceliaa.Tm
end

section
namespace Go.Proofs.Ytloheongiceliaa.L3.Lo
open Go.ChangeShapes Go.WideShapes Go.ChangeAt Go.RowKit

namespace Tm
/-- A right term of some depth and length in which no name from 900 on stands. -/
def Good (k m : Nat) (l : List UInt8) : Prop := Go.Proofs.Ytloheongiceliaa.Tm.depthOf l ≠ 0 ∧ (Go.Proofs.Ytloheongiceliaa.Tm.depthOf l ≤ k ∧ Go.Proofs.Ytloheongiceliaa.Tm.Low l) ∧ l.length ≤ m
theorem Good.mono {k k' m m' : Nat} {l : List UInt8} (h : Good k m l) (hk : k ≤ k') (hm : m ≤ m') : Good k' m' l := ⟨h.1, ⟨Nat.le_trans h.2.1.1 hk, h.2.1.2⟩, Nat.le_trans h.2.2 hm⟩
theorem Good.base {k m : Nat} {l : List UInt8} (h : Good k m l) : Go.Proofs.Ytloheongiceliaa.Tm.Good k m l := ⟨h.1, h.2.1.1, h.2.2⟩
theorem Good.of {k m : Nat} {l : List UInt8} (h : Go.Proofs.Ytloheongiceliaa.Tm.Good k m l) (hl : Go.Proofs.Ytloheongiceliaa.Tm.Low l) : Good k m l := ⟨h.1, ⟨h.2.1, hl⟩, h.2.2⟩
theorem good_name (n : Nat) (h : n < 5 := by omega) : Good 1 12 (110 :: Go.Proofs.Ytloheongiceliaa.Tm.be8 n) := .of (Go.Proofs.Ytloheongiceliaa.Tm.good_name n) (Go.Proofs.Ytloheongiceliaa.Tm.low_name h)
theorem good_number (n : Nat) : Good 1 12 (117 :: Go.Proofs.Ytloheongiceliaa.Tm.be8 n) := .of (Go.Proofs.Ytloheongiceliaa.Tm.good_number n) (Go.Proofs.Ytloheongiceliaa.Tm.low_leaf (Go.Proofs.Ytloheongiceliaa.Tm.good_number n).1 (.inr (.inl rfl)))
theorem good_gen : Good 1 12 [103] := .of Go.Proofs.Ytloheongiceliaa.Tm.good_gen (Go.Proofs.Ytloheongiceliaa.Tm.low_leaf Go.Proofs.Ytloheongiceliaa.Tm.good_gen.1 (.inl rfl))
theorem good_private (p : Nat) (h1 : 1 ≤ p) (h8 : p ≤ 8) : Good 1 12 [105, UInt8.ofNat p] := .of (Go.Proofs.Ytloheongiceliaa.Tm.good_private p h1 h8) (Go.Proofs.Ytloheongiceliaa.Tm.low_leaf (Go.Proofs.Ytloheongiceliaa.Tm.good_private p h1 h8).1 (.inr (.inr (.inr rfl))))
theorem good_text (s : List UInt8) (h : s.length ≤ 2) : Good 1 12 (116 :: 0 :: UInt8.ofNat s.length :: s) := .of (Go.Proofs.Ytloheongiceliaa.Tm.good_text s h) (Go.Proofs.Ytloheongiceliaa.Tm.low_leaf (Go.Proofs.Ytloheongiceliaa.Tm.good_text s h).1 (.inr (.inr (.inl rfl))))
end Tm

def NameOut (w : World) (e : Ending) (w' : World) : Prop := ∃ l : List UInt8, e = .returned (.string ⟨l.toArray⟩) ∧ Tm.Good 1 12 l ∧ Below w.heap.size w w'

theorem ab_cut_lo (k : Nat) : ((⟨#[97, 98]⟩ : ByteArray).extract 0 k).data.toList.length ≤ 2 := by
  rw [toList_extract]; simp; omega

set_option maxRecDepth 100000 in
set_option maxHeartbeats 4000000 in
theorem name_calls (c : Int) (h1 : -9223372036854775808 ≤ c) (h2 : c ≤ 9223372036854775807) (w : World) :
    Calls Try.prog 38 #[.int .i64 c] w (NameOut w) := by
  obtain ⟨m, hm⟩ : ∃ m : Nat, (if c < 0 then -(c + 1) else c) = m := ⟨(if c < 0 then -(c + 1) else c).toNat, by split <;> omega⟩
  obtain ⟨k, hk⟩ : ∃ k : Nat, m / 6 % 5 = k := ⟨_, rfl⟩
  obtain ⟨r, hr⟩ : ∃ r : Nat, m % 6 = r := ⟨_, rfl⟩
  have hk5 : k < 5 := by omega
  have hr6 : r < 6 := by omega
  have hkI : (m : Int) / 6 % 5 = (k : Int) := by omega
  have hrI : (m : Int) % 6 = (r : Int) := by omega
  obtain ⟨q, hq⟩ : ∃ q : Nat, k % 3 = q := ⟨_, rfl⟩
  have hq3 : q ≤ 2 := by omega
  have hk3I : (k : Int) % 3 = (q : Int) := by omega
  have cN := fun W => Name_calls k (by omega) W
  have cU := fun W => Number_calls k (by omega) W
  have cP := fun W => Private_calls (1 + (k : Int)) (by omega) (by omega) W
  have cT := fun W => Text_calls ((⟨#[97, 98]⟩ : ByteArray).extract 0 q) (by rw [← len_bytes]; have := ab_cut_lo q; omega) W
  have gP := Tm.good_private (1 + (k : Int)).toNat (by omega) (by omega)
  have gT := Tm.good_text ((⟨#[97, 98]⟩ : ByteArray).extract 0 q).data.toList (ab_cut_lo _)
  rw [len_bytes] at gT
  have gN := Tm.good_name k
  have gU := Tm.good_number k
  generalize (116 :: 0 :: UInt8.ofNat ((⟨#[97, 98]⟩ : ByteArray).extract 0 q).size :: ((⟨#[97, 98]⟩ : ByteArray).extract 0 q).data.toList) = lt at *
  generalize (110 :: Tm.be8 k) = ln at *
  generalize (117 :: Tm.be8 k) = lu at *
  have eP : (#[105, UInt8.ofNat (1 + (k : Int)).toNat] : Array UInt8) = [105, UInt8.ofNat (1 + (k : Int)).toNat].toArray := rfl
  rw [eP] at cP
  generalize [105, UInt8.ofNat (1 + (k : Int)).toNat] = lp at *
  have HN := Lib.hid cN
  have HU := Lib.hid cU
  have HP := Lib.hid cP
  have HT := Lib.hid cT
  have GG : Hid (Tm.Good 1 12 ln ∧ Tm.Good 1 12 lu ∧ Tm.Good 1 12 lp ∧ Tm.Good 1 12 lt) := ⟨gN, gU, gP, gT⟩
  have k1 : (0 : Int) ≤ (m : Int) := by omega
  have k2 : (m : Int) ≤ 9223372036854775807 := by split at hm <;> omega
  have k3 : (0 : Int) ≤ (k : Int) := by omega
  have k4 : (k : Int) < 5 := by omega
  have k5 : (0 : Int) ≤ (q : Int) := by omega
  have k6 : (q : Int) ≤ 2 := by omega
  clear cN cU cP cT gN gU gP gT eP hk hr hq
  have hcc : (c < 0 ∧ c = -(m : Int) - 1) ∨ (¬ c < 0 ∧ c = (m : Int)) := by
    by_cases hc : c < 0
    · rw [if_pos hc] at hm; exact .inl ⟨hc, by omega⟩
    · rw [if_neg hc] at hm; exact .inr ⟨hc, hm⟩
  clear hm
  rcases hcc with ⟨hc, rfl⟩ | ⟨hc, rfl⟩
  all_goals
    match r, hr6 with
    | 0, _ =>
      go_enter Try.func38, Try.ntmps38
      go_wp2_with fail
      refine (HN.out _).mono ?_
      rintro e' w' ⟨rfl, hbw⟩
      go_wp2
      go_ret
      exact ⟨ln, rfl, GG.out.1, hbw⟩
    | 1, _ =>
      go_enter Try.func38, Try.ntmps38
      go_wp2_with fail
      refine (HN.out _).mono ?_
      rintro e' w' ⟨rfl, hbw⟩
      go_wp2
      go_ret
      exact ⟨ln, rfl, GG.out.1, hbw⟩
    | 2, _ =>
      go_enter Try.func38, Try.ntmps38
      go_wp2_with fail
      refine (HU.out _).mono ?_
      rintro e' w' ⟨rfl, hbw⟩
      go_wp2
      go_ret
      exact ⟨lu, rfl, GG.out.2.1, hbw⟩
    | 3, _ =>
      go_enter Try.func38, Try.ntmps38
      go_wp2_with fail
      refine (HP.out _).mono ?_
      rintro e' w' ⟨rfl, hbw⟩
      go_wp2
      go_ret
      exact ⟨lp, rfl, GG.out.2.2.1, hbw⟩
    | 4, _ =>
      go_enter Try.func38, Try.ntmps38
      go_wp2_with fail
      refine (HT.out _).mono ?_
      rintro e' w' ⟨rfl, hbw⟩
      go_wp2
      go_ret
      exact ⟨lt, rfl, GG.out.2.2.2, hbw⟩
    | 5, _ =>
      go_enter Try.func38, Try.ntmps38
      go_wp2_with fail
      refine (Gen_calls _).mono ?_
      rintro e' w' ⟨rfl, hbw⟩
      go_wp2
      go_ret
      exact ⟨[103], rfl, Tm.good_gen, hbw⟩
    | r + 6, h => omega

def MkOut (W : World) (k : Nat) (e : Ending) (w' : World) : Prop :=
  ∃ (l : List UInt8) (en : Nat), e = .returned (.tuple #[.string ⟨l.toArray⟩, .int .i64 en]) ∧ (en = 0 → Tm.Good k 20000 l) ∧ Below W.heap.size W w'

theorem good_size {k : Nat} {l : List UInt8} (h : Tm.Good k 600 l) : (⟨l.toArray⟩ : ByteArray).size ≤ maxLen := Go.Proofs.Ytloheongiceliaa.good_size h.base
theorem mk_of_pair2 {W : World} {k : Nat} {r : List UInt8 × Nat} (h : ∀ l, r = (l, 0) → Tm.Good k 20000 l) {e : Ending} {w' : World} (hp : Pair2 W r e w') : MkOut W k e w' := by
  obtain ⟨l, en⟩ := r
  obtain ⟨he, hb⟩ := hp
  exact ⟨l, en, he, fun h0 => h l (by rw [h0]), hb⟩

theorem mk_pair {k : Nat} {a b : List UInt8} (ha : Tm.Good k 600 a) (hb : Tm.Good k 600 b) (W : World) : Calls Try.prog 39 #[.string ⟨a.toArray⟩, .string ⟨b.toArray⟩] W (MkOut W (k + 1)) :=
  (Pair_calls ⟨a.toArray⟩ ⟨b.toArray⟩ (good_size ha) (good_size hb) W).mono fun _ _ hp => mk_of_pair2 (fun l h => have q := Tm.good_pair (by simpa using h) ha.2.1.1 hb.2.1.1; .of q.2.2 (Tm.low_pair q.1 ha.1 hb.1 ha.2.1.2 hb.2.1.2)) hp
theorem mk_sign {k : Nat} {a b : List UInt8} (ha : Tm.Good k 600 a) (hb : Tm.Good k 600 b) (W : World) : Calls Try.prog 40 #[.string ⟨a.toArray⟩, .string ⟨b.toArray⟩] W (MkOut W (k + 1)) :=
  (Sign_calls ⟨a.toArray⟩ ⟨b.toArray⟩ (good_size ha) (good_size hb) W).mono fun _ _ hp => mk_of_pair2 (fun l h => have q := Tm.good_sign (by simpa using h) ha.2.1.1 hb.2.1.1; .of q.2.2 (Tm.low_sign q.1 ha.1 hb.1 ha.2.1.2 hb.2.1.2)) hp
theorem mk_hash {k : Nat} {a : List UInt8} (ha : Tm.Good k 600 a) (W : World) : Calls Try.prog 20 #[.string ⟨a.toArray⟩] W (MkOut W (k + 1)) :=
  (Hash_calls ⟨a.toArray⟩ (good_size ha) W).mono fun _ _ hp => mk_of_pair2 (fun l h => have q := Tm.good_hash (by simpa using h) ha.2.1.1; .of q.2.2 (Tm.low_hash q.1 ha.1 ha.2.1.2)) hp
theorem mk_three {k : Nat} {a b c : List UInt8} (ha : Tm.Good k 600 a) (hb : Tm.Good k 600 b) (hc : Tm.Good k 600 c) (W : World) : Calls Try.prog 23 #[.string ⟨a.toArray⟩, .string ⟨b.toArray⟩, .string ⟨c.toArray⟩] W (MkOut W (k + 1)) :=
  (Seal_calls ⟨a.toArray⟩ ⟨b.toArray⟩ ⟨c.toArray⟩ (good_size ha) (good_size hb) (good_size hc) W).mono fun _ _ hp => mk_of_pair2 (fun l h => have q := Tm.good_seal3 (by simpa using h) ha.2.1.1 hb.2.1.1 hc.2.1.1; .of q.2 (Tm.low_three q.1 ha.1 hb.1 hc.1 ha.2.1.2 hb.2.1.2 hc.2.1.2)) hp
theorem mk_key {k : Nat} {a : List UInt8} (ha : Tm.Good k 600 a) (W : World) : Calls Try.prog 22 #[.string ⟨a.toArray⟩] W (MkOut W (k + 1)) := by
  cases hel : Tm.element a with
  | true => exact (Key_calls ⟨a.toArray⟩ (good_size ha) (by simpa using hel) W).mono fun _ _ hp => mk_of_pair2 (fun l h => have q := Tm.good_key (by simpa using h) hel ha.2.1.1; .of q.2.2 (Tm.low_key q.1 ha.1 ha.2.1.2)) hp
  | false => exact (Key_no_calls ⟨a.toArray⟩ (by simpa using hel) W).mono fun _ _ hp => mk_of_pair2 (fun l h => by simp at h) hp
theorem mk_power {k : Nat} {a b : List UInt8} (ha : Tm.Good k 600 a) (hb : Tm.Good k 600 b) (W : World) : Calls Try.prog 21 #[.string ⟨a.toArray⟩, .string ⟨b.toArray⟩] W (MkOut W (k + 1)) := by
  have ra : Tm.right a = true := (Tm.right_iff a).2 ha.1
  have rb : Tm.right b = true := (Tm.right_iff b).2 hb.1
  have ea : (⟨a.toArray⟩ : ByteArray).data.toList = a := by simp
  have eb : (⟨b.toArray⟩ : ByteArray).data.toList = b := by simp
  cases hel : Tm.element a with
  | false =>
    exact (Power_no ⟨a.toArray⟩ ⟨b.toArray⟩ (good_size ha) (good_size hb) W (by rw [ea, hel]; simp)).mono fun _ _ hp => mk_of_pair2 (fun l h => by simp at h) hp
  | true =>
    by_cases h0 : a.getD 0 0 = 103
    · refine (Power_gen ⟨a.toArray⟩ ⟨b.toArray⟩ (good_size ha) (good_size hb) W (by rw [ea]; exact hel) (by rw [ea]; exact ra) (by rw [eb]; exact rb) (by rw [ea]; exact h0)).mono ?_
      rintro e w' ⟨i, hf, hp⟩
      rw [ea, eb] at hp hf
      have hn : (Tm.expsOf a).length ≠ 32 := by
        unfold Tm.expsOf
        rw [if_pos h0]
        simp
      exact mk_of_pair2 (fun l h => .of (Tm.good_power ra hel hf hn h ha.2.1.1 hb.2.1.1) (Tm.low_pow (Tm.pow_fact ra hel rb hf hn h) ha.2.1.2 hb.2.1.2)) hp
    · by_cases h32 : (Tm.expsOf a).length = 32
      · exact (Power_full ⟨a.toArray⟩ ⟨b.toArray⟩ (good_size ha) (good_size hb) W (by rw [ea]; exact hel) (by rw [ea]; exact ra) (by rw [eb]; exact rb) (by rw [ea]; exact h0) (by rw [ea]; exact h32)).mono fun _ _ hp => mk_of_pair2 (fun l h => by simp at h) hp
      · refine (Power_pow ⟨a.toArray⟩ ⟨b.toArray⟩ (good_size ha) (good_size hb) W (by rw [ea]; exact hel) (by rw [ea]; exact ra) (by rw [eb]; exact rb) (by rw [ea]; exact h0) (by rw [ea]; exact h32)).mono ?_
        rintro e w' ⟨i, hf, hp⟩
        rw [ea, eb] at hp hf
        exact mk_of_pair2 (fun l h => .of (Tm.good_power ra hel hf h32 h ha.2.1.1 hb.2.1.1) (Tm.low_pow (Tm.pow_fact ra hel rb hf h32 h) ha.2.1.2 hb.2.1.2)) hp

def Making (w : World) (n k : Nat) (v3 v4 : Value) (wr : World) : Prop :=
  ∃ (i : Nat) (ts : List (List UInt8)), k + i = 40 ∧ i ≤ n ∧ v4 = .int .i64 i ∧ ts.length = i + 2 ∧ wr.ownsRow w.heap.size 24 1 v3 ts.length (strs ts) ∧ (∀ t ∈ ts, Tm.Good (i + 1) 600 t) ∧ Below w.heap.size w wr

/-- What stays while a step is made: the row of terms, all that lay before, the step itself. -/
def Mid (w : World) (g cap q : Nat) (ts : List (List UInt8)) (o a b c : Int) (V : World) : Prop :=
  V.ownsRow w.heap.size 24 1 (.slice (some ⟨g, 0, none⟩) ts.length cap) ts.length (strs ts) ∧ Below w.heap.size w V ∧ V.heap[q]? = some (.cells #[.int .i64 o, .int .i64 a, .int .i64 b, .int .i64 c] 71 (0, 0))
theorem Mid.next {w V V' : World} {g cap q : Nat} {ts : List (List UInt8)} {o a b c : Int} (h : Mid w g cap q ts o a b c V) (hb : Below V.heap.size V V') : Mid w g cap q ts o a b c V' :=
  ⟨ownsRow_below h.1 hb, h.2.1.trans (hb.mono h.2.1.size), (hb.block q (Array.getElem?_eq_some_iff.1 h.2.2).1).trans h.2.2⟩
theorem Mid.op {w V : World} {g cap q : Nat} {ts : List (List UInt8)} {o a b c : Int} (h : Mid w g cap q ts o a b c V) : V.cell? ⟨q, 0, none⟩ = some (.int .i64 o) := (cell_of_row V _ 0 _ _ _ h.2.2).trans rfl
theorem Mid.two {w V : World} {g cap q : Nat} {ts : List (List UInt8)} {o a b c : Int} (h : Mid w g cap q ts o a b c V) : V.cell? ⟨q, 2, none⟩ = some (.int .i64 b) := (cell_of_row V _ 2 _ _ _ h.2.2).trans rfl

theorem made_next {w V : World} {n k i : Nat} {ts : List (List UInt8)} {l : List UInt8} {v : Value} (hk : k + i = 40) (hi : i < n) (hi2 : i < 40) (hl : ts.length = i + 2) (hg : ∀ t ∈ ts, Tm.Good (i + 1) 600 t) (hgl : Tm.Good (i + 2) 600 l)
    (ho : V.ownsRow w.heap.size 24 1 v (ts.length + 1) (strs ts ++ [.string ⟨l.toArray⟩])) (hb : Below w.heap.size w V) : Making w n (k - 1) v (.int .i64 ((i : Int) + 1)) V := by
  refine ⟨i + 1, ts ++ [l], by omega, by omega, rfl, by simp; omega, ?_, ?_, hb⟩
  · have e : strs (ts ++ [l]) = strs ts ++ [.string ⟨l.toArray⟩] := by simp [strs]
    rw [e, List.length_append, List.length_singleton]
    exact ho
  · intro t ht
    rcases List.mem_append.1 ht with ht | ht
    · exact (hg t ht).mono (by omega) (Nat.le_refl _)
    · rw [List.mem_singleton.1 ht]; exact hgl

def MadeOut (w : World) (n : Nat) (e : Ending) (w' : World) : Prop :=
  ∃ (g cap : Nat) (ts : List (List UInt8)), e = .returned (.slice (some ⟨g, 0, none⟩) ts.length cap) ∧ w'.ownsRow w.heap.size 24 1 (.slice (some ⟨g, 0, none⟩) ts.length cap) ts.length (strs ts) ∧ ts.length = min n 40 + 2 ∧ (∀ t ∈ ts, Tm.Good 41 600 t) ∧ Below w.heap.size w w'

set_option maxRecDepth 100000 in
set_option maxHeartbeats 40000000 in
theorem made_calls (A : Option Addr) (n c : Nat) (w : World) (hS : Steps w A n) (hnc : n ≤ maxLen) :
    Calls Try.prog 17 #[.slice A n c] w (MadeOut w n) := by
  unfold maxLen at hnc
  obtain ⟨i0, hi, hz0, hz1, hz2⟩ := info_parts info_term
  have HSt := Lib.hid hS
  have cN1 := fun W => name_calls 1 (by omega) (by omega) W
  have HN1 := Lib.hid cN1
  clear cN1 hS
  go_enter Try.func17, Try.ntmps17
  go_wp2_with fail
  refine (Gen_calls _).mono ?_
  rintro e' w1 ⟨rfl, hb1⟩
  go_wp2_with fail
  refine (HN1.out _).mono ?_
  rintro e' w2 ⟨l1, rfl, hg1, hb2⟩
  have B2 := hb1.trans (hb2.mono hb1.size)
  clear hb1 hb2
  go_wp2
  have HI : Hid (Making w n 40 (.slice (some ⟨w2.heap.size, 0, none⟩) 2 2) (.int .i64 0) (w2.alloc (.cells #[.string ⟨#[103]⟩, .string ⟨l1.toArray⟩] 24))) := by
    refine ⟨0, [[103], l1], rfl, Nat.zero_le _, rfl, rfl, World.ownsRow_lit (base := w.heap.size) (size := 1) w2 _ 2 B2.size (by unfold maxLen; omega) rfl, ?_, B2.alloc B2.size _⟩
    intro t ht
    simp only [List.mem_cons, List.not_mem_nil, or_false] at ht
    rcases ht with rfl | rfl
    · exact Tm.good_gen.mono (by omega) (by omega)
    · exact hg1.mono (by omega) (by omega)
  clear hg1 B2
  generalize w2.alloc (.cells #[.string ⟨#[103]⟩, .string ⟨l1.toArray⟩] 24) = w3 at *
  go_loopg [3, 4] 40 (fun k v3 v4 wr => Making w n k v3 v4 wr)
  case atStart => exact HI.out
  case round =>
    clear HI
    obtain ⟨i, ts, hk, hin, rfl, hlen, hrow, hgood, hbel⟩ := hrel
    have HG := Lib.hid hgood
    have HR := Lib.hid hrow
    have hL := Lib.hid hlen
    obtain ⟨g, cap, rfl⟩ : ∃ g cap, u3 = .slice (some ⟨g, 0, none⟩) ts.length cap := by
      rcases hrow.2 with ⟨_, h⟩ | ⟨g, cap, _, h, _⟩
      · omega
      · exact ⟨g, cap, h⟩
    have hts : ts.length ≤ 42 := by omega
    have hts2 : 2 ≤ ts.length := by omega
    clear hgood hrow hlen
    by_cases h1 : i < n ∧ i < 40
    · obtain ⟨ad, o, a, b, c', hA, hadw, ro, ra, rb, rc, c0, c1, c2, c3⟩ := HSt.out i h1.1
      subst hA
      have i1 : (i : Int) < (n : Int) := by omega
      have i2 : (i : Int) < 40 := by omega
      have i3 : (0 : Int) ≤ (i : Int) := by omega
      obtain ⟨W, hW⟩ : ∃ W, wr.alloc (.cells #[.int .i64 o, .int .i64 a, .int .i64 b, .int .i64 c'] 71) = W := ⟨_, rfl⟩
      have hbW : Below wr.heap.size wr W := by rw [← hW]; exact (Below.refl _ _).alloc (Nat.le_refl _) _
      have hblk : W.heap[wr.heap.size]? = some (.cells #[.int .i64 o, .int .i64 a, .int .i64 b, .int .i64 c'] 71 (0, 0)) := by rw [← hW]; exact heap_alloc_new wr _
      have hWs : W.heap.size = wr.heap.size + 1 := by rw [← hW]; simp
      have k0 : wr.cell? (ad.add (i * 4)) = some (.int .i64 o) := (hbel.cell (p := ad.add (i * 4)) (by rw [block_add]; exact hadw)).trans c0
      have k1 : wr.cell? ⟨(ad.add (i * 4)).block, (ad.add (i * 4)).off + 1, none⟩ = some (.int .i64 a) := by
        rw [← add_more ad (i * 4) 1 (by omega)]
        exact (hbel.cell (p := ad.add (i * 4 + 1)) (by rw [block_add]; exact hadw)).trans c1
      have k2 : wr.cell? ⟨(ad.add (i * 4)).block, (ad.add (i * 4)).off + 2, none⟩ = some (.int .i64 b) := by
        rw [← add_more ad (i * 4) 2 (by omega)]
        exact (hbel.cell (p := ad.add (i * 4 + 2)) (by rw [block_add]; exact hadw)).trans c2
      have k3 : wr.cell? ⟨(ad.add (i * 4)).block, (ad.add (i * 4)).off + 3, none⟩ = some (.int .i64 c') := by
        rw [← add_more ad (i * 4) 3 (by omega)]
        exact (hbel.cell (p := ad.add (i * 4 + 3)) (by rw [block_add]; exact hadw)).trans c3
      have hTx : Texts W g ts := (texts_of_row HR.out).below hbW (lt_of_row HR.out)
      have hpl : ∀ v, Tm.pickN v ts.length < ts.length := fun v => Tm.pickN_lt v _ (by omega)
      obtain ⟨pa, hpa⟩ : ∃ p, Tm.pickN a ts.length = p := ⟨_, rfl⟩
      obtain ⟨pb, hpb⟩ : ∃ p, Tm.pickN b ts.length = p := ⟨_, rfl⟩
      obtain ⟨pc, hpc⟩ : ∃ p, Tm.pickN c' ts.length = p := ⟨_, rfl⟩
      have la := hpl a
      have lb := hpl b
      have lc := hpl c'
      rw [hpa] at la
      rw [hpb] at lb
      rw [hpc] at lc
      obtain ⟨xa, hxa⟩ : ∃ x, ts[pa]? = some x := ⟨_, List.getElem?_eq_getElem la⟩
      obtain ⟨xb, hxb⟩ : ∃ x, ts[pb]? = some x := ⟨_, List.getElem?_eq_getElem lb⟩
      obtain ⟨xc, hxc⟩ : ∃ x, ts[pc]? = some x := ⟨_, List.getElem?_eq_getElem lc⟩
      have Ga := HG.out xa (List.mem_of_getElem? hxa)
      have Gb := HG.out xb (List.mem_of_getElem? hxb)
      have Gc := HG.out xc (List.mem_of_getElem? hxc)
      have m0 : W.cell? ⟨wr.heap.size, 0, none⟩ = some (.int .i64 o) := (cell_of_row W _ 0 _ _ _ hblk).trans rfl
      have m1 : W.cell? ⟨wr.heap.size, 1, none⟩ = some (.int .i64 a) := (cell_of_row W _ 1 _ _ _ hblk).trans rfl
      have m2 : W.cell? ⟨wr.heap.size, 2, none⟩ = some (.int .i64 b) := (cell_of_row W _ 2 _ _ _ hblk).trans rfl
      have m3 : W.cell? ⟨wr.heap.size, 3, none⟩ = some (.int .i64 c') := (cell_of_row W _ 3 _ _ _ hblk).trans rfl
      have ca : W.cell? ⟨g, pa, none⟩ = some (.string ⟨xa.toArray⟩) := hTx pa xa hxa
      have cb : W.cell? ⟨g, pb, none⟩ = some (.string ⟨xb.toArray⟩) := hTx pb xb hxb
      have cc : W.cell? ⟨g, pc, none⟩ = some (.string ⟨xc.toArray⟩) := hTx pc xc hxc
      have cPa := pick_calls a ts.length ra.1 ra.2 (by omega) (by omega) W
      have cPb := pick_calls b ts.length rb.1 rb.2 (by omega) (by omega) W
      have cPc := pick_calls c' ts.length rc.1 rc.2 (by omega) (by omega) W
      rw [hpa] at cPa
      rw [hpb] at cPb
      rw [hpc] at cPc
      have HPa := Lib.hid cPa
      have HPb := Lib.hid cPb
      have HPc := Lib.hid cPc
      have HPo := Lib.hid (fun V => pick_calls o 10 ro.1 ro.2 (by omega) (by omega) V)
      have HNa := Lib.hid (fun V => name_calls a ra.1 ra.2 V)
      have HNb := Lib.hid (fun V => name_calls b rb.1 rb.2 V)
      have HW := Lib.hid hW
      have HBW := Lib.hid (And.intro hbW (And.intro hblk hWs))
      have ja : (pa : Int) < (ts.length : Int) := by omega
      have jb : (pb : Int) < (ts.length : Int) := by omega
      have jc : (pc : Int) < (ts.length : Int) := by omega
      have ja0 : (0 : Int) ≤ (pa : Int) := by omega
      have jb0 : (0 : Int) ≤ (pb : Int) := by omega
      have jc0 : (0 : Int) ≤ (pc : Int) := by omega
      have ol := Tm.pickN_lt o 10 (by omega)
      obtain ⟨op, hop⟩ : ∃ p, Tm.pickN o 10 = p := ⟨_, rfl⟩
      rw [hop] at HPo ol
      clear hTx hpl hpa hpb hpc hxa hxb hxc cPa cPb cPc c0 c1 c2 c3 hop hbW hblk hWs ro ra rb rc
      have MW : Hid (Mid w g cap wr.heap.size ts o a b c' W) := ⟨ownsRow_below HR.out HBW.out.1, hbel.trans (HBW.out.1.mono hbel.size), HBW.out.2.1⟩
      go_wp2_with fail
      refine HPa.out.mono ?_
      rintro e' w' ⟨rfl, rfl⟩
      go_wp2_with fail
      refine HPb.out.mono ?_
      rintro e' w' ⟨rfl, rfl⟩
      go_wp2_with fail
      refine HPc.out.mono ?_
      rintro e' w' ⟨rfl, rfl⟩
      go_wp2_with fail
      refine (HNa.out _).mono ?_
      rintro e' w4 ⟨la4, rfl, hg4, hb4⟩
      have Mw4 := Lib.hid (MW.out.next hb4)
      have G4 := Lib.hid hg4
      have n0 : w4.cell? ⟨wr.heap.size, 0, none⟩ = some (.int .i64 o) := Mw4.out.op
      have hl4 : (la4.length : Int) ≤ 600 := by have := hg4.2.2; omega
      clear hg4 hb4 hW m0 m1 m2 m3 ca cb cc k0 k1 k2 k3 HPa HPb HPc MW
      go_wp2_with fail
      refine (HPo.out _).mono ?_
      rintro e' w' ⟨rfl, rfl⟩
      have n2 : w4.cell? ⟨wr.heap.size, 2, none⟩ = some (.int .i64 b) := Mw4.out.two
      match op, ol with
      | 0, _ =>
        go_wp2_with (
          at_builtin
          refine wpList_append_own _ rfl _ _ 38 rfl w.heap.size 24 i0 (.string ⟨#[]⟩) 1 16 Try.underlying38 hi hz0 hz1 hz2 rfl (by decide) _ ts.length (strs ts) rfl (World.ownsRow.alloc (w := w4) Mw4.out.1 _) ⟨w4.heap.size, 0, none⟩ 1 1 [.string ⟨la4.toArray⟩] rfl rfl (cell_one_new _ _ _) (fun x hx => by simp at hx; subst hx; rfl) (by unfold maxLen; omega) (by omega) (by have := Mw4.out.2.1.size; simp; omega) ?_
          intro v9 w9 hown9 hgrow9 _
          have X9 : Hid (w9.ownsRow w.heap.size 24 1 v9 (ts.length + 1) (strs ts ++ [.string ⟨la4.toArray⟩]) ∧ Below w.heap.size w w9) := ⟨hown9, Below.grown (Mw4.out.2.1.alloc Mw4.out.2.1.size _) hgrow9 (by have := Mw4.out.2.1.size; simp; omega) (fun j hj => (Mw4.out.1.lt j hj).1)⟩
          clear hown9 hgrow9)
        go_roundg (gk - 1)
        case measure => omega
        case rel => exact made_next hk h1.1 h1.2 hL.out HG.out (G4.out.mono (by omega) (by omega)) X9.out.1 X9.out.2
      | 1, _ =>
        go_wp2_with fail
        refine (mk_power Ga Gb _).mono ?_
        rintro e' w5 ⟨l5, en, rfl, hg5, hb5⟩
        have Mw5 := Lib.hid (Mw4.out.next hb5)
        have G5 := Lib.hid hg5
        have n5 : w5.cell? ⟨wr.heap.size, 2, none⟩ = some (.int .i64 b) := Mw5.out.two
        clear hg5 hb5
        by_cases hen : en = 0
        · subst hen
          have G7 := Lib.hid (G5.out rfl)
          clear G5
          by_cases hl5 : l5.length ≤ 600
          · have hl6 : (l5.length : Int) ≤ 600 := by omega
            go_wp2_with (
              at_builtin
              refine wpList_append_own _ rfl _ _ 38 rfl w.heap.size 24 i0 (.string ⟨#[]⟩) 1 16 Try.underlying38 hi hz0 hz1 hz2 rfl (by decide) _ ts.length (strs ts) rfl (World.ownsRow.alloc (w := w5) Mw5.out.1 _) ⟨w5.heap.size, 0, none⟩ 1 1 [.string ⟨l5.toArray⟩] rfl rfl (cell_one_new _ _ _) (fun x hx => by simp at hx; subst hx; rfl) (by unfold maxLen; omega) (by omega) (by have := Mw5.out.2.1.size; simp; omega) ?_
              intro v9 w9 hown9 hgrow9 _
              have X9 : Hid (w9.ownsRow w.heap.size 24 1 v9 (ts.length + 1) (strs ts ++ [.string ⟨l5.toArray⟩]) ∧ Below w.heap.size w w9) := ⟨hown9, Below.grown (Mw5.out.2.1.alloc Mw5.out.2.1.size _) hgrow9 (by have := Mw5.out.2.1.size; simp; omega) (fun j hj => (Mw5.out.1.lt j hj).1)⟩
              clear hown9 hgrow9)
            go_roundg (gk - 1)
            case measure => omega
            case rel => exact made_next hk h1.1 h1.2 hL.out HG.out (⟨G7.out.1, G7.out.2.1, hl5⟩) X9.out.1 X9.out.2
          · have hl6 : (600 : Int) < (l5.length : Int) := by omega
            have hl7 : l5.length ≤ 20000 := G7.out.2.2
            go_wp2_with fail
            refine (HNb.out _).mono ?_
            rintro e' w6 ⟨l6, rfl, hg6, hb6⟩
            have Mw6 := Lib.hid (Mw5.out.next hb6)
            have G6 := Lib.hid hg6
            clear hg6 hb6
            go_wp2_with (
              at_builtin
              refine wpList_append_own _ rfl _ _ 38 rfl w.heap.size 24 i0 (.string ⟨#[]⟩) 1 16 Try.underlying38 hi hz0 hz1 hz2 rfl (by decide) _ ts.length (strs ts) rfl (World.ownsRow.alloc (w := w6) Mw6.out.1 _) ⟨w6.heap.size, 0, none⟩ 1 1 [.string ⟨l6.toArray⟩] rfl rfl (cell_one_new _ _ _) (fun x hx => by simp at hx; subst hx; rfl) (by unfold maxLen; omega) (by omega) (by have := Mw6.out.2.1.size; simp; omega) ?_
              intro v9 w9 hown9 hgrow9 _
              have X9 : Hid (w9.ownsRow w.heap.size 24 1 v9 (ts.length + 1) (strs ts ++ [.string ⟨l6.toArray⟩]) ∧ Below w.heap.size w w9) := ⟨hown9, Below.grown (Mw6.out.2.1.alloc Mw6.out.2.1.size _) hgrow9 (by have := Mw6.out.2.1.size; simp; omega) (fun j hj => (Mw6.out.1.lt j hj).1)⟩
              clear hown9 hgrow9)
            go_roundg (gk - 1)
            case measure => omega
            case rel => exact made_next hk h1.1 h1.2 hL.out HG.out (G6.out.mono (by omega) (by omega)) X9.out.1 X9.out.2
        · have hen2 : ((en : Int) != 0) = true := by simp; omega
          have hen3 : ((en : Int) == 0) = false := by simp; omega
          go_wp2_with fail
          refine (HNb.out _).mono ?_
          rintro e' w6 ⟨l6, rfl, hg6, hb6⟩
          have Mw6 := Lib.hid (Mw5.out.next hb6)
          have G6 := Lib.hid hg6
          clear hg6 hb6
          go_wp2_with (
            at_builtin
            refine wpList_append_own _ rfl _ _ 38 rfl w.heap.size 24 i0 (.string ⟨#[]⟩) 1 16 Try.underlying38 hi hz0 hz1 hz2 rfl (by decide) _ ts.length (strs ts) rfl (World.ownsRow.alloc (w := w6) Mw6.out.1 _) ⟨w6.heap.size, 0, none⟩ 1 1 [.string ⟨l6.toArray⟩] rfl rfl (cell_one_new _ _ _) (fun x hx => by simp at hx; subst hx; rfl) (by unfold maxLen; omega) (by omega) (by have := Mw6.out.2.1.size; simp; omega) ?_
            intro v9 w9 hown9 hgrow9 _
            have X9 : Hid (w9.ownsRow w.heap.size 24 1 v9 (ts.length + 1) (strs ts ++ [.string ⟨l6.toArray⟩]) ∧ Below w.heap.size w w9) := ⟨hown9, Below.grown (Mw6.out.2.1.alloc Mw6.out.2.1.size _) hgrow9 (by have := Mw6.out.2.1.size; simp; omega) (fun j hj => (Mw6.out.1.lt j hj).1)⟩
            clear hown9 hgrow9)
          go_roundg (gk - 1)
          case measure => omega
          case rel => exact made_next hk h1.1 h1.2 hL.out HG.out (G6.out.mono (by omega) (by omega)) X9.out.1 X9.out.2
      | 2, _ =>
        go_wp2_with fail
        refine (mk_power Ga Gb _).mono ?_
        rintro e' w5 ⟨l5, en, rfl, hg5, hb5⟩
        have Mw5 := Lib.hid (Mw4.out.next hb5)
        have G5 := Lib.hid hg5
        have n5 : w5.cell? ⟨wr.heap.size, 2, none⟩ = some (.int .i64 b) := Mw5.out.two
        clear hg5 hb5
        by_cases hen : en = 0
        · subst hen
          have G7 := Lib.hid (G5.out rfl)
          clear G5
          by_cases hl5 : l5.length ≤ 600
          · have hl6 : (l5.length : Int) ≤ 600 := by omega
            go_wp2_with (
              at_builtin
              refine wpList_append_own _ rfl _ _ 38 rfl w.heap.size 24 i0 (.string ⟨#[]⟩) 1 16 Try.underlying38 hi hz0 hz1 hz2 rfl (by decide) _ ts.length (strs ts) rfl (World.ownsRow.alloc (w := w5) Mw5.out.1 _) ⟨w5.heap.size, 0, none⟩ 1 1 [.string ⟨l5.toArray⟩] rfl rfl (cell_one_new _ _ _) (fun x hx => by simp at hx; subst hx; rfl) (by unfold maxLen; omega) (by omega) (by have := Mw5.out.2.1.size; simp; omega) ?_
              intro v9 w9 hown9 hgrow9 _
              have X9 : Hid (w9.ownsRow w.heap.size 24 1 v9 (ts.length + 1) (strs ts ++ [.string ⟨l5.toArray⟩]) ∧ Below w.heap.size w w9) := ⟨hown9, Below.grown (Mw5.out.2.1.alloc Mw5.out.2.1.size _) hgrow9 (by have := Mw5.out.2.1.size; simp; omega) (fun j hj => (Mw5.out.1.lt j hj).1)⟩
              clear hown9 hgrow9)
            go_roundg (gk - 1)
            case measure => omega
            case rel => exact made_next hk h1.1 h1.2 hL.out HG.out (⟨G7.out.1, G7.out.2.1, hl5⟩) X9.out.1 X9.out.2
          · have hl6 : (600 : Int) < (l5.length : Int) := by omega
            have hl7 : l5.length ≤ 20000 := G7.out.2.2
            go_wp2_with fail
            refine (HNb.out _).mono ?_
            rintro e' w6 ⟨l6, rfl, hg6, hb6⟩
            have Mw6 := Lib.hid (Mw5.out.next hb6)
            have G6 := Lib.hid hg6
            clear hg6 hb6
            go_wp2_with (
              at_builtin
              refine wpList_append_own _ rfl _ _ 38 rfl w.heap.size 24 i0 (.string ⟨#[]⟩) 1 16 Try.underlying38 hi hz0 hz1 hz2 rfl (by decide) _ ts.length (strs ts) rfl (World.ownsRow.alloc (w := w6) Mw6.out.1 _) ⟨w6.heap.size, 0, none⟩ 1 1 [.string ⟨l6.toArray⟩] rfl rfl (cell_one_new _ _ _) (fun x hx => by simp at hx; subst hx; rfl) (by unfold maxLen; omega) (by omega) (by have := Mw6.out.2.1.size; simp; omega) ?_
              intro v9 w9 hown9 hgrow9 _
              have X9 : Hid (w9.ownsRow w.heap.size 24 1 v9 (ts.length + 1) (strs ts ++ [.string ⟨l6.toArray⟩]) ∧ Below w.heap.size w w9) := ⟨hown9, Below.grown (Mw6.out.2.1.alloc Mw6.out.2.1.size _) hgrow9 (by have := Mw6.out.2.1.size; simp; omega) (fun j hj => (Mw6.out.1.lt j hj).1)⟩
              clear hown9 hgrow9)
            go_roundg (gk - 1)
            case measure => omega
            case rel => exact made_next hk h1.1 h1.2 hL.out HG.out (G6.out.mono (by omega) (by omega)) X9.out.1 X9.out.2
        · have hen2 : ((en : Int) != 0) = true := by simp; omega
          have hen3 : ((en : Int) == 0) = false := by simp; omega
          go_wp2_with fail
          refine (HNb.out _).mono ?_
          rintro e' w6 ⟨l6, rfl, hg6, hb6⟩
          have Mw6 := Lib.hid (Mw5.out.next hb6)
          have G6 := Lib.hid hg6
          clear hg6 hb6
          go_wp2_with (
            at_builtin
            refine wpList_append_own _ rfl _ _ 38 rfl w.heap.size 24 i0 (.string ⟨#[]⟩) 1 16 Try.underlying38 hi hz0 hz1 hz2 rfl (by decide) _ ts.length (strs ts) rfl (World.ownsRow.alloc (w := w6) Mw6.out.1 _) ⟨w6.heap.size, 0, none⟩ 1 1 [.string ⟨l6.toArray⟩] rfl rfl (cell_one_new _ _ _) (fun x hx => by simp at hx; subst hx; rfl) (by unfold maxLen; omega) (by omega) (by have := Mw6.out.2.1.size; simp; omega) ?_
            intro v9 w9 hown9 hgrow9 _
            have X9 : Hid (w9.ownsRow w.heap.size 24 1 v9 (ts.length + 1) (strs ts ++ [.string ⟨l6.toArray⟩]) ∧ Below w.heap.size w w9) := ⟨hown9, Below.grown (Mw6.out.2.1.alloc Mw6.out.2.1.size _) hgrow9 (by have := Mw6.out.2.1.size; simp; omega) (fun j hj => (Mw6.out.1.lt j hj).1)⟩
            clear hown9 hgrow9)
          go_roundg (gk - 1)
          case measure => omega
          case rel => exact made_next hk h1.1 h1.2 hL.out HG.out (G6.out.mono (by omega) (by omega)) X9.out.1 X9.out.2
      | 3, _ =>
        go_wp2_with fail
        refine (mk_power Ga Gb _).mono ?_
        rintro e' w5 ⟨l5, en, rfl, hg5, hb5⟩
        have Mw5 := Lib.hid (Mw4.out.next hb5)
        have G5 := Lib.hid hg5
        have n5 : w5.cell? ⟨wr.heap.size, 2, none⟩ = some (.int .i64 b) := Mw5.out.two
        clear hg5 hb5
        by_cases hen : en = 0
        · subst hen
          have G7 := Lib.hid (G5.out rfl)
          clear G5
          by_cases hl5 : l5.length ≤ 600
          · have hl6 : (l5.length : Int) ≤ 600 := by omega
            go_wp2_with (
              at_builtin
              refine wpList_append_own _ rfl _ _ 38 rfl w.heap.size 24 i0 (.string ⟨#[]⟩) 1 16 Try.underlying38 hi hz0 hz1 hz2 rfl (by decide) _ ts.length (strs ts) rfl (World.ownsRow.alloc (w := w5) Mw5.out.1 _) ⟨w5.heap.size, 0, none⟩ 1 1 [.string ⟨l5.toArray⟩] rfl rfl (cell_one_new _ _ _) (fun x hx => by simp at hx; subst hx; rfl) (by unfold maxLen; omega) (by omega) (by have := Mw5.out.2.1.size; simp; omega) ?_
              intro v9 w9 hown9 hgrow9 _
              have X9 : Hid (w9.ownsRow w.heap.size 24 1 v9 (ts.length + 1) (strs ts ++ [.string ⟨l5.toArray⟩]) ∧ Below w.heap.size w w9) := ⟨hown9, Below.grown (Mw5.out.2.1.alloc Mw5.out.2.1.size _) hgrow9 (by have := Mw5.out.2.1.size; simp; omega) (fun j hj => (Mw5.out.1.lt j hj).1)⟩
              clear hown9 hgrow9)
            go_roundg (gk - 1)
            case measure => omega
            case rel => exact made_next hk h1.1 h1.2 hL.out HG.out (⟨G7.out.1, G7.out.2.1, hl5⟩) X9.out.1 X9.out.2
          · have hl6 : (600 : Int) < (l5.length : Int) := by omega
            have hl7 : l5.length ≤ 20000 := G7.out.2.2
            go_wp2_with fail
            refine (HNb.out _).mono ?_
            rintro e' w6 ⟨l6, rfl, hg6, hb6⟩
            have Mw6 := Lib.hid (Mw5.out.next hb6)
            have G6 := Lib.hid hg6
            clear hg6 hb6
            go_wp2_with (
              at_builtin
              refine wpList_append_own _ rfl _ _ 38 rfl w.heap.size 24 i0 (.string ⟨#[]⟩) 1 16 Try.underlying38 hi hz0 hz1 hz2 rfl (by decide) _ ts.length (strs ts) rfl (World.ownsRow.alloc (w := w6) Mw6.out.1 _) ⟨w6.heap.size, 0, none⟩ 1 1 [.string ⟨l6.toArray⟩] rfl rfl (cell_one_new _ _ _) (fun x hx => by simp at hx; subst hx; rfl) (by unfold maxLen; omega) (by omega) (by have := Mw6.out.2.1.size; simp; omega) ?_
              intro v9 w9 hown9 hgrow9 _
              have X9 : Hid (w9.ownsRow w.heap.size 24 1 v9 (ts.length + 1) (strs ts ++ [.string ⟨l6.toArray⟩]) ∧ Below w.heap.size w w9) := ⟨hown9, Below.grown (Mw6.out.2.1.alloc Mw6.out.2.1.size _) hgrow9 (by have := Mw6.out.2.1.size; simp; omega) (fun j hj => (Mw6.out.1.lt j hj).1)⟩
              clear hown9 hgrow9)
            go_roundg (gk - 1)
            case measure => omega
            case rel => exact made_next hk h1.1 h1.2 hL.out HG.out (G6.out.mono (by omega) (by omega)) X9.out.1 X9.out.2
        · have hen2 : ((en : Int) != 0) = true := by simp; omega
          have hen3 : ((en : Int) == 0) = false := by simp; omega
          go_wp2_with fail
          refine (HNb.out _).mono ?_
          rintro e' w6 ⟨l6, rfl, hg6, hb6⟩
          have Mw6 := Lib.hid (Mw5.out.next hb6)
          have G6 := Lib.hid hg6
          clear hg6 hb6
          go_wp2_with (
            at_builtin
            refine wpList_append_own _ rfl _ _ 38 rfl w.heap.size 24 i0 (.string ⟨#[]⟩) 1 16 Try.underlying38 hi hz0 hz1 hz2 rfl (by decide) _ ts.length (strs ts) rfl (World.ownsRow.alloc (w := w6) Mw6.out.1 _) ⟨w6.heap.size, 0, none⟩ 1 1 [.string ⟨l6.toArray⟩] rfl rfl (cell_one_new _ _ _) (fun x hx => by simp at hx; subst hx; rfl) (by unfold maxLen; omega) (by omega) (by have := Mw6.out.2.1.size; simp; omega) ?_
            intro v9 w9 hown9 hgrow9 _
            have X9 : Hid (w9.ownsRow w.heap.size 24 1 v9 (ts.length + 1) (strs ts ++ [.string ⟨l6.toArray⟩]) ∧ Below w.heap.size w w9) := ⟨hown9, Below.grown (Mw6.out.2.1.alloc Mw6.out.2.1.size _) hgrow9 (by have := Mw6.out.2.1.size; simp; omega) (fun j hj => (Mw6.out.1.lt j hj).1)⟩
            clear hown9 hgrow9)
          go_roundg (gk - 1)
          case measure => omega
          case rel => exact made_next hk h1.1 h1.2 hL.out HG.out (G6.out.mono (by omega) (by omega)) X9.out.1 X9.out.2
      | 4, _ =>
        go_wp2_with fail
        refine (mk_key Ga _).mono ?_
        rintro e' w5 ⟨l5, en, rfl, hg5, hb5⟩
        have Mw5 := Lib.hid (Mw4.out.next hb5)
        have G5 := Lib.hid hg5
        have n5 : w5.cell? ⟨wr.heap.size, 2, none⟩ = some (.int .i64 b) := Mw5.out.two
        clear hg5 hb5
        by_cases hen : en = 0
        · subst hen
          have G7 := Lib.hid (G5.out rfl)
          clear G5
          by_cases hl5 : l5.length ≤ 600
          · have hl6 : (l5.length : Int) ≤ 600 := by omega
            go_wp2_with (
              at_builtin
              refine wpList_append_own _ rfl _ _ 38 rfl w.heap.size 24 i0 (.string ⟨#[]⟩) 1 16 Try.underlying38 hi hz0 hz1 hz2 rfl (by decide) _ ts.length (strs ts) rfl (World.ownsRow.alloc (w := w5) Mw5.out.1 _) ⟨w5.heap.size, 0, none⟩ 1 1 [.string ⟨l5.toArray⟩] rfl rfl (cell_one_new _ _ _) (fun x hx => by simp at hx; subst hx; rfl) (by unfold maxLen; omega) (by omega) (by have := Mw5.out.2.1.size; simp; omega) ?_
              intro v9 w9 hown9 hgrow9 _
              have X9 : Hid (w9.ownsRow w.heap.size 24 1 v9 (ts.length + 1) (strs ts ++ [.string ⟨l5.toArray⟩]) ∧ Below w.heap.size w w9) := ⟨hown9, Below.grown (Mw5.out.2.1.alloc Mw5.out.2.1.size _) hgrow9 (by have := Mw5.out.2.1.size; simp; omega) (fun j hj => (Mw5.out.1.lt j hj).1)⟩
              clear hown9 hgrow9)
            go_roundg (gk - 1)
            case measure => omega
            case rel => exact made_next hk h1.1 h1.2 hL.out HG.out (⟨G7.out.1, G7.out.2.1, hl5⟩) X9.out.1 X9.out.2
          · have hl6 : (600 : Int) < (l5.length : Int) := by omega
            have hl7 : l5.length ≤ 20000 := G7.out.2.2
            go_wp2_with fail
            refine (HNb.out _).mono ?_
            rintro e' w6 ⟨l6, rfl, hg6, hb6⟩
            have Mw6 := Lib.hid (Mw5.out.next hb6)
            have G6 := Lib.hid hg6
            clear hg6 hb6
            go_wp2_with (
              at_builtin
              refine wpList_append_own _ rfl _ _ 38 rfl w.heap.size 24 i0 (.string ⟨#[]⟩) 1 16 Try.underlying38 hi hz0 hz1 hz2 rfl (by decide) _ ts.length (strs ts) rfl (World.ownsRow.alloc (w := w6) Mw6.out.1 _) ⟨w6.heap.size, 0, none⟩ 1 1 [.string ⟨l6.toArray⟩] rfl rfl (cell_one_new _ _ _) (fun x hx => by simp at hx; subst hx; rfl) (by unfold maxLen; omega) (by omega) (by have := Mw6.out.2.1.size; simp; omega) ?_
              intro v9 w9 hown9 hgrow9 _
              have X9 : Hid (w9.ownsRow w.heap.size 24 1 v9 (ts.length + 1) (strs ts ++ [.string ⟨l6.toArray⟩]) ∧ Below w.heap.size w w9) := ⟨hown9, Below.grown (Mw6.out.2.1.alloc Mw6.out.2.1.size _) hgrow9 (by have := Mw6.out.2.1.size; simp; omega) (fun j hj => (Mw6.out.1.lt j hj).1)⟩
              clear hown9 hgrow9)
            go_roundg (gk - 1)
            case measure => omega
            case rel => exact made_next hk h1.1 h1.2 hL.out HG.out (G6.out.mono (by omega) (by omega)) X9.out.1 X9.out.2
        · have hen2 : ((en : Int) != 0) = true := by simp; omega
          have hen3 : ((en : Int) == 0) = false := by simp; omega
          go_wp2_with fail
          refine (HNb.out _).mono ?_
          rintro e' w6 ⟨l6, rfl, hg6, hb6⟩
          have Mw6 := Lib.hid (Mw5.out.next hb6)
          have G6 := Lib.hid hg6
          clear hg6 hb6
          go_wp2_with (
            at_builtin
            refine wpList_append_own _ rfl _ _ 38 rfl w.heap.size 24 i0 (.string ⟨#[]⟩) 1 16 Try.underlying38 hi hz0 hz1 hz2 rfl (by decide) _ ts.length (strs ts) rfl (World.ownsRow.alloc (w := w6) Mw6.out.1 _) ⟨w6.heap.size, 0, none⟩ 1 1 [.string ⟨l6.toArray⟩] rfl rfl (cell_one_new _ _ _) (fun x hx => by simp at hx; subst hx; rfl) (by unfold maxLen; omega) (by omega) (by have := Mw6.out.2.1.size; simp; omega) ?_
            intro v9 w9 hown9 hgrow9 _
            have X9 : Hid (w9.ownsRow w.heap.size 24 1 v9 (ts.length + 1) (strs ts ++ [.string ⟨l6.toArray⟩]) ∧ Below w.heap.size w w9) := ⟨hown9, Below.grown (Mw6.out.2.1.alloc Mw6.out.2.1.size _) hgrow9 (by have := Mw6.out.2.1.size; simp; omega) (fun j hj => (Mw6.out.1.lt j hj).1)⟩
            clear hown9 hgrow9)
          go_roundg (gk - 1)
          case measure => omega
          case rel => exact made_next hk h1.1 h1.2 hL.out HG.out (G6.out.mono (by omega) (by omega)) X9.out.1 X9.out.2
      | 5, _ =>
        go_wp2_with fail
        refine (mk_pair Ga Gb _).mono ?_
        rintro e' w5 ⟨l5, en, rfl, hg5, hb5⟩
        have Mw5 := Lib.hid (Mw4.out.next hb5)
        have G5 := Lib.hid hg5
        have n5 : w5.cell? ⟨wr.heap.size, 2, none⟩ = some (.int .i64 b) := Mw5.out.two
        clear hg5 hb5
        by_cases hen : en = 0
        · subst hen
          have G7 := Lib.hid (G5.out rfl)
          clear G5
          by_cases hl5 : l5.length ≤ 600
          · have hl6 : (l5.length : Int) ≤ 600 := by omega
            go_wp2_with (
              at_builtin
              refine wpList_append_own _ rfl _ _ 38 rfl w.heap.size 24 i0 (.string ⟨#[]⟩) 1 16 Try.underlying38 hi hz0 hz1 hz2 rfl (by decide) _ ts.length (strs ts) rfl (World.ownsRow.alloc (w := w5) Mw5.out.1 _) ⟨w5.heap.size, 0, none⟩ 1 1 [.string ⟨l5.toArray⟩] rfl rfl (cell_one_new _ _ _) (fun x hx => by simp at hx; subst hx; rfl) (by unfold maxLen; omega) (by omega) (by have := Mw5.out.2.1.size; simp; omega) ?_
              intro v9 w9 hown9 hgrow9 _
              have X9 : Hid (w9.ownsRow w.heap.size 24 1 v9 (ts.length + 1) (strs ts ++ [.string ⟨l5.toArray⟩]) ∧ Below w.heap.size w w9) := ⟨hown9, Below.grown (Mw5.out.2.1.alloc Mw5.out.2.1.size _) hgrow9 (by have := Mw5.out.2.1.size; simp; omega) (fun j hj => (Mw5.out.1.lt j hj).1)⟩
              clear hown9 hgrow9)
            go_roundg (gk - 1)
            case measure => omega
            case rel => exact made_next hk h1.1 h1.2 hL.out HG.out (⟨G7.out.1, G7.out.2.1, hl5⟩) X9.out.1 X9.out.2
          · have hl6 : (600 : Int) < (l5.length : Int) := by omega
            have hl7 : l5.length ≤ 20000 := G7.out.2.2
            go_wp2_with fail
            refine (HNb.out _).mono ?_
            rintro e' w6 ⟨l6, rfl, hg6, hb6⟩
            have Mw6 := Lib.hid (Mw5.out.next hb6)
            have G6 := Lib.hid hg6
            clear hg6 hb6
            go_wp2_with (
              at_builtin
              refine wpList_append_own _ rfl _ _ 38 rfl w.heap.size 24 i0 (.string ⟨#[]⟩) 1 16 Try.underlying38 hi hz0 hz1 hz2 rfl (by decide) _ ts.length (strs ts) rfl (World.ownsRow.alloc (w := w6) Mw6.out.1 _) ⟨w6.heap.size, 0, none⟩ 1 1 [.string ⟨l6.toArray⟩] rfl rfl (cell_one_new _ _ _) (fun x hx => by simp at hx; subst hx; rfl) (by unfold maxLen; omega) (by omega) (by have := Mw6.out.2.1.size; simp; omega) ?_
              intro v9 w9 hown9 hgrow9 _
              have X9 : Hid (w9.ownsRow w.heap.size 24 1 v9 (ts.length + 1) (strs ts ++ [.string ⟨l6.toArray⟩]) ∧ Below w.heap.size w w9) := ⟨hown9, Below.grown (Mw6.out.2.1.alloc Mw6.out.2.1.size _) hgrow9 (by have := Mw6.out.2.1.size; simp; omega) (fun j hj => (Mw6.out.1.lt j hj).1)⟩
              clear hown9 hgrow9)
            go_roundg (gk - 1)
            case measure => omega
            case rel => exact made_next hk h1.1 h1.2 hL.out HG.out (G6.out.mono (by omega) (by omega)) X9.out.1 X9.out.2
        · have hen2 : ((en : Int) != 0) = true := by simp; omega
          have hen3 : ((en : Int) == 0) = false := by simp; omega
          go_wp2_with fail
          refine (HNb.out _).mono ?_
          rintro e' w6 ⟨l6, rfl, hg6, hb6⟩
          have Mw6 := Lib.hid (Mw5.out.next hb6)
          have G6 := Lib.hid hg6
          clear hg6 hb6
          go_wp2_with (
            at_builtin
            refine wpList_append_own _ rfl _ _ 38 rfl w.heap.size 24 i0 (.string ⟨#[]⟩) 1 16 Try.underlying38 hi hz0 hz1 hz2 rfl (by decide) _ ts.length (strs ts) rfl (World.ownsRow.alloc (w := w6) Mw6.out.1 _) ⟨w6.heap.size, 0, none⟩ 1 1 [.string ⟨l6.toArray⟩] rfl rfl (cell_one_new _ _ _) (fun x hx => by simp at hx; subst hx; rfl) (by unfold maxLen; omega) (by omega) (by have := Mw6.out.2.1.size; simp; omega) ?_
            intro v9 w9 hown9 hgrow9 _
            have X9 : Hid (w9.ownsRow w.heap.size 24 1 v9 (ts.length + 1) (strs ts ++ [.string ⟨l6.toArray⟩]) ∧ Below w.heap.size w w9) := ⟨hown9, Below.grown (Mw6.out.2.1.alloc Mw6.out.2.1.size _) hgrow9 (by have := Mw6.out.2.1.size; simp; omega) (fun j hj => (Mw6.out.1.lt j hj).1)⟩
            clear hown9 hgrow9)
          go_roundg (gk - 1)
          case measure => omega
          case rel => exact made_next hk h1.1 h1.2 hL.out HG.out (G6.out.mono (by omega) (by omega)) X9.out.1 X9.out.2
      | 6, _ =>
        go_wp2_with fail
        refine (mk_pair Ga Gb _).mono ?_
        rintro e' w5 ⟨l5, en, rfl, hg5, hb5⟩
        have Mw5 := Lib.hid (Mw4.out.next hb5)
        have G5 := Lib.hid hg5
        have n5 : w5.cell? ⟨wr.heap.size, 2, none⟩ = some (.int .i64 b) := Mw5.out.two
        clear hg5 hb5
        by_cases hen : en = 0
        · subst hen
          have G7 := Lib.hid (G5.out rfl)
          clear G5
          by_cases hl5 : l5.length ≤ 600
          · have hl6 : (l5.length : Int) ≤ 600 := by omega
            go_wp2_with (
              at_builtin
              refine wpList_append_own _ rfl _ _ 38 rfl w.heap.size 24 i0 (.string ⟨#[]⟩) 1 16 Try.underlying38 hi hz0 hz1 hz2 rfl (by decide) _ ts.length (strs ts) rfl (World.ownsRow.alloc (w := w5) Mw5.out.1 _) ⟨w5.heap.size, 0, none⟩ 1 1 [.string ⟨l5.toArray⟩] rfl rfl (cell_one_new _ _ _) (fun x hx => by simp at hx; subst hx; rfl) (by unfold maxLen; omega) (by omega) (by have := Mw5.out.2.1.size; simp; omega) ?_
              intro v9 w9 hown9 hgrow9 _
              have X9 : Hid (w9.ownsRow w.heap.size 24 1 v9 (ts.length + 1) (strs ts ++ [.string ⟨l5.toArray⟩]) ∧ Below w.heap.size w w9) := ⟨hown9, Below.grown (Mw5.out.2.1.alloc Mw5.out.2.1.size _) hgrow9 (by have := Mw5.out.2.1.size; simp; omega) (fun j hj => (Mw5.out.1.lt j hj).1)⟩
              clear hown9 hgrow9)
            go_roundg (gk - 1)
            case measure => omega
            case rel => exact made_next hk h1.1 h1.2 hL.out HG.out (⟨G7.out.1, G7.out.2.1, hl5⟩) X9.out.1 X9.out.2
          · have hl6 : (600 : Int) < (l5.length : Int) := by omega
            have hl7 : l5.length ≤ 20000 := G7.out.2.2
            go_wp2_with fail
            refine (HNb.out _).mono ?_
            rintro e' w6 ⟨l6, rfl, hg6, hb6⟩
            have Mw6 := Lib.hid (Mw5.out.next hb6)
            have G6 := Lib.hid hg6
            clear hg6 hb6
            go_wp2_with (
              at_builtin
              refine wpList_append_own _ rfl _ _ 38 rfl w.heap.size 24 i0 (.string ⟨#[]⟩) 1 16 Try.underlying38 hi hz0 hz1 hz2 rfl (by decide) _ ts.length (strs ts) rfl (World.ownsRow.alloc (w := w6) Mw6.out.1 _) ⟨w6.heap.size, 0, none⟩ 1 1 [.string ⟨l6.toArray⟩] rfl rfl (cell_one_new _ _ _) (fun x hx => by simp at hx; subst hx; rfl) (by unfold maxLen; omega) (by omega) (by have := Mw6.out.2.1.size; simp; omega) ?_
              intro v9 w9 hown9 hgrow9 _
              have X9 : Hid (w9.ownsRow w.heap.size 24 1 v9 (ts.length + 1) (strs ts ++ [.string ⟨l6.toArray⟩]) ∧ Below w.heap.size w w9) := ⟨hown9, Below.grown (Mw6.out.2.1.alloc Mw6.out.2.1.size _) hgrow9 (by have := Mw6.out.2.1.size; simp; omega) (fun j hj => (Mw6.out.1.lt j hj).1)⟩
              clear hown9 hgrow9)
            go_roundg (gk - 1)
            case measure => omega
            case rel => exact made_next hk h1.1 h1.2 hL.out HG.out (G6.out.mono (by omega) (by omega)) X9.out.1 X9.out.2
        · have hen2 : ((en : Int) != 0) = true := by simp; omega
          have hen3 : ((en : Int) == 0) = false := by simp; omega
          go_wp2_with fail
          refine (HNb.out _).mono ?_
          rintro e' w6 ⟨l6, rfl, hg6, hb6⟩
          have Mw6 := Lib.hid (Mw5.out.next hb6)
          have G6 := Lib.hid hg6
          clear hg6 hb6
          go_wp2_with (
            at_builtin
            refine wpList_append_own _ rfl _ _ 38 rfl w.heap.size 24 i0 (.string ⟨#[]⟩) 1 16 Try.underlying38 hi hz0 hz1 hz2 rfl (by decide) _ ts.length (strs ts) rfl (World.ownsRow.alloc (w := w6) Mw6.out.1 _) ⟨w6.heap.size, 0, none⟩ 1 1 [.string ⟨l6.toArray⟩] rfl rfl (cell_one_new _ _ _) (fun x hx => by simp at hx; subst hx; rfl) (by unfold maxLen; omega) (by omega) (by have := Mw6.out.2.1.size; simp; omega) ?_
            intro v9 w9 hown9 hgrow9 _
            have X9 : Hid (w9.ownsRow w.heap.size 24 1 v9 (ts.length + 1) (strs ts ++ [.string ⟨l6.toArray⟩]) ∧ Below w.heap.size w w9) := ⟨hown9, Below.grown (Mw6.out.2.1.alloc Mw6.out.2.1.size _) hgrow9 (by have := Mw6.out.2.1.size; simp; omega) (fun j hj => (Mw6.out.1.lt j hj).1)⟩
            clear hown9 hgrow9)
          go_roundg (gk - 1)
          case measure => omega
          case rel => exact made_next hk h1.1 h1.2 hL.out HG.out (G6.out.mono (by omega) (by omega)) X9.out.1 X9.out.2
      | 7, _ =>
        go_wp2_with fail
        refine (mk_hash Ga _).mono ?_
        rintro e' w5 ⟨l5, en, rfl, hg5, hb5⟩
        have Mw5 := Lib.hid (Mw4.out.next hb5)
        have G5 := Lib.hid hg5
        have n5 : w5.cell? ⟨wr.heap.size, 2, none⟩ = some (.int .i64 b) := Mw5.out.two
        clear hg5 hb5
        by_cases hen : en = 0
        · subst hen
          have G7 := Lib.hid (G5.out rfl)
          clear G5
          by_cases hl5 : l5.length ≤ 600
          · have hl6 : (l5.length : Int) ≤ 600 := by omega
            go_wp2_with (
              at_builtin
              refine wpList_append_own _ rfl _ _ 38 rfl w.heap.size 24 i0 (.string ⟨#[]⟩) 1 16 Try.underlying38 hi hz0 hz1 hz2 rfl (by decide) _ ts.length (strs ts) rfl (World.ownsRow.alloc (w := w5) Mw5.out.1 _) ⟨w5.heap.size, 0, none⟩ 1 1 [.string ⟨l5.toArray⟩] rfl rfl (cell_one_new _ _ _) (fun x hx => by simp at hx; subst hx; rfl) (by unfold maxLen; omega) (by omega) (by have := Mw5.out.2.1.size; simp; omega) ?_
              intro v9 w9 hown9 hgrow9 _
              have X9 : Hid (w9.ownsRow w.heap.size 24 1 v9 (ts.length + 1) (strs ts ++ [.string ⟨l5.toArray⟩]) ∧ Below w.heap.size w w9) := ⟨hown9, Below.grown (Mw5.out.2.1.alloc Mw5.out.2.1.size _) hgrow9 (by have := Mw5.out.2.1.size; simp; omega) (fun j hj => (Mw5.out.1.lt j hj).1)⟩
              clear hown9 hgrow9)
            go_roundg (gk - 1)
            case measure => omega
            case rel => exact made_next hk h1.1 h1.2 hL.out HG.out (⟨G7.out.1, G7.out.2.1, hl5⟩) X9.out.1 X9.out.2
          · have hl6 : (600 : Int) < (l5.length : Int) := by omega
            have hl7 : l5.length ≤ 20000 := G7.out.2.2
            go_wp2_with fail
            refine (HNb.out _).mono ?_
            rintro e' w6 ⟨l6, rfl, hg6, hb6⟩
            have Mw6 := Lib.hid (Mw5.out.next hb6)
            have G6 := Lib.hid hg6
            clear hg6 hb6
            go_wp2_with (
              at_builtin
              refine wpList_append_own _ rfl _ _ 38 rfl w.heap.size 24 i0 (.string ⟨#[]⟩) 1 16 Try.underlying38 hi hz0 hz1 hz2 rfl (by decide) _ ts.length (strs ts) rfl (World.ownsRow.alloc (w := w6) Mw6.out.1 _) ⟨w6.heap.size, 0, none⟩ 1 1 [.string ⟨l6.toArray⟩] rfl rfl (cell_one_new _ _ _) (fun x hx => by simp at hx; subst hx; rfl) (by unfold maxLen; omega) (by omega) (by have := Mw6.out.2.1.size; simp; omega) ?_
              intro v9 w9 hown9 hgrow9 _
              have X9 : Hid (w9.ownsRow w.heap.size 24 1 v9 (ts.length + 1) (strs ts ++ [.string ⟨l6.toArray⟩]) ∧ Below w.heap.size w w9) := ⟨hown9, Below.grown (Mw6.out.2.1.alloc Mw6.out.2.1.size _) hgrow9 (by have := Mw6.out.2.1.size; simp; omega) (fun j hj => (Mw6.out.1.lt j hj).1)⟩
              clear hown9 hgrow9)
            go_roundg (gk - 1)
            case measure => omega
            case rel => exact made_next hk h1.1 h1.2 hL.out HG.out (G6.out.mono (by omega) (by omega)) X9.out.1 X9.out.2
        · have hen2 : ((en : Int) != 0) = true := by simp; omega
          have hen3 : ((en : Int) == 0) = false := by simp; omega
          go_wp2_with fail
          refine (HNb.out _).mono ?_
          rintro e' w6 ⟨l6, rfl, hg6, hb6⟩
          have Mw6 := Lib.hid (Mw5.out.next hb6)
          have G6 := Lib.hid hg6
          clear hg6 hb6
          go_wp2_with (
            at_builtin
            refine wpList_append_own _ rfl _ _ 38 rfl w.heap.size 24 i0 (.string ⟨#[]⟩) 1 16 Try.underlying38 hi hz0 hz1 hz2 rfl (by decide) _ ts.length (strs ts) rfl (World.ownsRow.alloc (w := w6) Mw6.out.1 _) ⟨w6.heap.size, 0, none⟩ 1 1 [.string ⟨l6.toArray⟩] rfl rfl (cell_one_new _ _ _) (fun x hx => by simp at hx; subst hx; rfl) (by unfold maxLen; omega) (by omega) (by have := Mw6.out.2.1.size; simp; omega) ?_
            intro v9 w9 hown9 hgrow9 _
            have X9 : Hid (w9.ownsRow w.heap.size 24 1 v9 (ts.length + 1) (strs ts ++ [.string ⟨l6.toArray⟩]) ∧ Below w.heap.size w w9) := ⟨hown9, Below.grown (Mw6.out.2.1.alloc Mw6.out.2.1.size _) hgrow9 (by have := Mw6.out.2.1.size; simp; omega) (fun j hj => (Mw6.out.1.lt j hj).1)⟩
            clear hown9 hgrow9)
          go_roundg (gk - 1)
          case measure => omega
          case rel => exact made_next hk h1.1 h1.2 hL.out HG.out (G6.out.mono (by omega) (by omega)) X9.out.1 X9.out.2
      | 8, _ =>
        go_wp2_with fail
        refine (mk_three Ga Gb Gc _).mono ?_
        rintro e' w5 ⟨l5, en, rfl, hg5, hb5⟩
        have Mw5 := Lib.hid (Mw4.out.next hb5)
        have G5 := Lib.hid hg5
        have n5 : w5.cell? ⟨wr.heap.size, 2, none⟩ = some (.int .i64 b) := Mw5.out.two
        clear hg5 hb5
        by_cases hen : en = 0
        · subst hen
          have G7 := Lib.hid (G5.out rfl)
          clear G5
          by_cases hl5 : l5.length ≤ 600
          · have hl6 : (l5.length : Int) ≤ 600 := by omega
            go_wp2_with (
              at_builtin
              refine wpList_append_own _ rfl _ _ 38 rfl w.heap.size 24 i0 (.string ⟨#[]⟩) 1 16 Try.underlying38 hi hz0 hz1 hz2 rfl (by decide) _ ts.length (strs ts) rfl (World.ownsRow.alloc (w := w5) Mw5.out.1 _) ⟨w5.heap.size, 0, none⟩ 1 1 [.string ⟨l5.toArray⟩] rfl rfl (cell_one_new _ _ _) (fun x hx => by simp at hx; subst hx; rfl) (by unfold maxLen; omega) (by omega) (by have := Mw5.out.2.1.size; simp; omega) ?_
              intro v9 w9 hown9 hgrow9 _
              have X9 : Hid (w9.ownsRow w.heap.size 24 1 v9 (ts.length + 1) (strs ts ++ [.string ⟨l5.toArray⟩]) ∧ Below w.heap.size w w9) := ⟨hown9, Below.grown (Mw5.out.2.1.alloc Mw5.out.2.1.size _) hgrow9 (by have := Mw5.out.2.1.size; simp; omega) (fun j hj => (Mw5.out.1.lt j hj).1)⟩
              clear hown9 hgrow9)
            go_roundg (gk - 1)
            case measure => omega
            case rel => exact made_next hk h1.1 h1.2 hL.out HG.out (⟨G7.out.1, G7.out.2.1, hl5⟩) X9.out.1 X9.out.2
          · have hl6 : (600 : Int) < (l5.length : Int) := by omega
            have hl7 : l5.length ≤ 20000 := G7.out.2.2
            go_wp2_with fail
            refine (HNb.out _).mono ?_
            rintro e' w6 ⟨l6, rfl, hg6, hb6⟩
            have Mw6 := Lib.hid (Mw5.out.next hb6)
            have G6 := Lib.hid hg6
            clear hg6 hb6
            go_wp2_with (
              at_builtin
              refine wpList_append_own _ rfl _ _ 38 rfl w.heap.size 24 i0 (.string ⟨#[]⟩) 1 16 Try.underlying38 hi hz0 hz1 hz2 rfl (by decide) _ ts.length (strs ts) rfl (World.ownsRow.alloc (w := w6) Mw6.out.1 _) ⟨w6.heap.size, 0, none⟩ 1 1 [.string ⟨l6.toArray⟩] rfl rfl (cell_one_new _ _ _) (fun x hx => by simp at hx; subst hx; rfl) (by unfold maxLen; omega) (by omega) (by have := Mw6.out.2.1.size; simp; omega) ?_
              intro v9 w9 hown9 hgrow9 _
              have X9 : Hid (w9.ownsRow w.heap.size 24 1 v9 (ts.length + 1) (strs ts ++ [.string ⟨l6.toArray⟩]) ∧ Below w.heap.size w w9) := ⟨hown9, Below.grown (Mw6.out.2.1.alloc Mw6.out.2.1.size _) hgrow9 (by have := Mw6.out.2.1.size; simp; omega) (fun j hj => (Mw6.out.1.lt j hj).1)⟩
              clear hown9 hgrow9)
            go_roundg (gk - 1)
            case measure => omega
            case rel => exact made_next hk h1.1 h1.2 hL.out HG.out (G6.out.mono (by omega) (by omega)) X9.out.1 X9.out.2
        · have hen2 : ((en : Int) != 0) = true := by simp; omega
          have hen3 : ((en : Int) == 0) = false := by simp; omega
          go_wp2_with fail
          refine (HNb.out _).mono ?_
          rintro e' w6 ⟨l6, rfl, hg6, hb6⟩
          have Mw6 := Lib.hid (Mw5.out.next hb6)
          have G6 := Lib.hid hg6
          clear hg6 hb6
          go_wp2_with (
            at_builtin
            refine wpList_append_own _ rfl _ _ 38 rfl w.heap.size 24 i0 (.string ⟨#[]⟩) 1 16 Try.underlying38 hi hz0 hz1 hz2 rfl (by decide) _ ts.length (strs ts) rfl (World.ownsRow.alloc (w := w6) Mw6.out.1 _) ⟨w6.heap.size, 0, none⟩ 1 1 [.string ⟨l6.toArray⟩] rfl rfl (cell_one_new _ _ _) (fun x hx => by simp at hx; subst hx; rfl) (by unfold maxLen; omega) (by omega) (by have := Mw6.out.2.1.size; simp; omega) ?_
            intro v9 w9 hown9 hgrow9 _
            have X9 : Hid (w9.ownsRow w.heap.size 24 1 v9 (ts.length + 1) (strs ts ++ [.string ⟨l6.toArray⟩]) ∧ Below w.heap.size w w9) := ⟨hown9, Below.grown (Mw6.out.2.1.alloc Mw6.out.2.1.size _) hgrow9 (by have := Mw6.out.2.1.size; simp; omega) (fun j hj => (Mw6.out.1.lt j hj).1)⟩
            clear hown9 hgrow9)
          go_roundg (gk - 1)
          case measure => omega
          case rel => exact made_next hk h1.1 h1.2 hL.out HG.out (G6.out.mono (by omega) (by omega)) X9.out.1 X9.out.2
      | 9, _ =>
        go_wp2_with fail
        refine (mk_sign Ga Gb _).mono ?_
        rintro e' w5 ⟨l5, en, rfl, hg5, hb5⟩
        have Mw5 := Lib.hid (Mw4.out.next hb5)
        have G5 := Lib.hid hg5
        have n5 : w5.cell? ⟨wr.heap.size, 2, none⟩ = some (.int .i64 b) := Mw5.out.two
        clear hg5 hb5
        by_cases hen : en = 0
        · subst hen
          have G7 := Lib.hid (G5.out rfl)
          clear G5
          by_cases hl5 : l5.length ≤ 600
          · have hl6 : (l5.length : Int) ≤ 600 := by omega
            go_wp2_with (
              at_builtin
              refine wpList_append_own _ rfl _ _ 38 rfl w.heap.size 24 i0 (.string ⟨#[]⟩) 1 16 Try.underlying38 hi hz0 hz1 hz2 rfl (by decide) _ ts.length (strs ts) rfl (World.ownsRow.alloc (w := w5) Mw5.out.1 _) ⟨w5.heap.size, 0, none⟩ 1 1 [.string ⟨l5.toArray⟩] rfl rfl (cell_one_new _ _ _) (fun x hx => by simp at hx; subst hx; rfl) (by unfold maxLen; omega) (by omega) (by have := Mw5.out.2.1.size; simp; omega) ?_
              intro v9 w9 hown9 hgrow9 _
              have X9 : Hid (w9.ownsRow w.heap.size 24 1 v9 (ts.length + 1) (strs ts ++ [.string ⟨l5.toArray⟩]) ∧ Below w.heap.size w w9) := ⟨hown9, Below.grown (Mw5.out.2.1.alloc Mw5.out.2.1.size _) hgrow9 (by have := Mw5.out.2.1.size; simp; omega) (fun j hj => (Mw5.out.1.lt j hj).1)⟩
              clear hown9 hgrow9)
            go_roundg (gk - 1)
            case measure => omega
            case rel => exact made_next hk h1.1 h1.2 hL.out HG.out (⟨G7.out.1, G7.out.2.1, hl5⟩) X9.out.1 X9.out.2
          · have hl6 : (600 : Int) < (l5.length : Int) := by omega
            have hl7 : l5.length ≤ 20000 := G7.out.2.2
            go_wp2_with fail
            refine (HNb.out _).mono ?_
            rintro e' w6 ⟨l6, rfl, hg6, hb6⟩
            have Mw6 := Lib.hid (Mw5.out.next hb6)
            have G6 := Lib.hid hg6
            clear hg6 hb6
            go_wp2_with (
              at_builtin
              refine wpList_append_own _ rfl _ _ 38 rfl w.heap.size 24 i0 (.string ⟨#[]⟩) 1 16 Try.underlying38 hi hz0 hz1 hz2 rfl (by decide) _ ts.length (strs ts) rfl (World.ownsRow.alloc (w := w6) Mw6.out.1 _) ⟨w6.heap.size, 0, none⟩ 1 1 [.string ⟨l6.toArray⟩] rfl rfl (cell_one_new _ _ _) (fun x hx => by simp at hx; subst hx; rfl) (by unfold maxLen; omega) (by omega) (by have := Mw6.out.2.1.size; simp; omega) ?_
              intro v9 w9 hown9 hgrow9 _
              have X9 : Hid (w9.ownsRow w.heap.size 24 1 v9 (ts.length + 1) (strs ts ++ [.string ⟨l6.toArray⟩]) ∧ Below w.heap.size w w9) := ⟨hown9, Below.grown (Mw6.out.2.1.alloc Mw6.out.2.1.size _) hgrow9 (by have := Mw6.out.2.1.size; simp; omega) (fun j hj => (Mw6.out.1.lt j hj).1)⟩
              clear hown9 hgrow9)
            go_roundg (gk - 1)
            case measure => omega
            case rel => exact made_next hk h1.1 h1.2 hL.out HG.out (G6.out.mono (by omega) (by omega)) X9.out.1 X9.out.2
        · have hen2 : ((en : Int) != 0) = true := by simp; omega
          have hen3 : ((en : Int) == 0) = false := by simp; omega
          go_wp2_with fail
          refine (HNb.out _).mono ?_
          rintro e' w6 ⟨l6, rfl, hg6, hb6⟩
          have Mw6 := Lib.hid (Mw5.out.next hb6)
          have G6 := Lib.hid hg6
          clear hg6 hb6
          go_wp2_with (
            at_builtin
            refine wpList_append_own _ rfl _ _ 38 rfl w.heap.size 24 i0 (.string ⟨#[]⟩) 1 16 Try.underlying38 hi hz0 hz1 hz2 rfl (by decide) _ ts.length (strs ts) rfl (World.ownsRow.alloc (w := w6) Mw6.out.1 _) ⟨w6.heap.size, 0, none⟩ 1 1 [.string ⟨l6.toArray⟩] rfl rfl (cell_one_new _ _ _) (fun x hx => by simp at hx; subst hx; rfl) (by unfold maxLen; omega) (by omega) (by have := Mw6.out.2.1.size; simp; omega) ?_
            intro v9 w9 hown9 hgrow9 _
            have X9 : Hid (w9.ownsRow w.heap.size 24 1 v9 (ts.length + 1) (strs ts ++ [.string ⟨l6.toArray⟩]) ∧ Below w.heap.size w w9) := ⟨hown9, Below.grown (Mw6.out.2.1.alloc Mw6.out.2.1.size _) hgrow9 (by have := Mw6.out.2.1.size; simp; omega) (fun j hj => (Mw6.out.1.lt j hj).1)⟩
            clear hown9 hgrow9)
          go_roundg (gk - 1)
          case measure => omega
          case rel => exact made_next hk h1.1 h1.2 hL.out HG.out (G6.out.mono (by omega) (by omega)) X9.out.1 X9.out.2
      | op + 10, h => omega
    · have hi40 : min n 40 = i := by omega
      have HF : Hid (ts.length = min n 40 + 2 ∧ ∀ t ∈ ts, Tm.Good 41 600 t) := ⟨by rw [hi40]; exact hL.out, fun t ht => (HG.out t ht).mono (by omega) (Nat.le_refl _)⟩
      clear hi40
      by_cases h2 : i < n
      · have i1 : (i : Int) < (n : Int) := by omega
        have i2 : ¬ ((i : Int) < 40) := by omega
        have d1 : decide ((i : Int) < (n : Int)) = true := by simpa using i1
        have d2 : decide ((i : Int) < 40) = false := by simp; omega
        go_wp2
        all_goals first
          | omega
          | (go_ret; exact ⟨g, cap, ts, rfl, HR.out, HF.out.1, HF.out.2, hbel⟩)
      · have i1 : ¬ ((i : Int) < (n : Int)) := by omega
        have d1 : decide ((i : Int) < (n : Int)) = false := by simp; omega
        go_wp2
        all_goals first
          | omega
          | (go_ret; exact ⟨g, cap, ts, rfl, HR.out, HF.out.1, HF.out.2, hbel⟩)


end Go.Proofs.Ytloheongiceliaa.L3.Lo
end
