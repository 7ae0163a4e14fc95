/- Contract of read: it returns what the machine of the grammar returns, for every text; nothing that lay in memory is changed. -/
import Derived.Test.YtckmpbmlneionaaFrame
import Derived.Deep.LoopGhost
import Derived.WalkMore
namespace Go.Proofs.Ytckmpbmlneionaa
open Go.ChangeShapes Go.WideShapes Go.ChangeAt Go.RowKit

def Fine (at_ : Nat) (st : List Tm.Fr) : Prop := ∀ f ∈ st, 0 < f.left ∧ f.left ≤ 32 ∧ f.frm ≤ at_

def Three (w : World) (r : Nat × Nat × Nat) (e : Ending) (w' : World) : Prop :=
  e = .returned (.tuple #[.int .i64 r.1, .int .i64 r.2.1, .int .i64 r.2.2]) ∧ Below w.heap.size w w'

def Inner (w : World) (s : ByteArray) (at_ depth k : Nat) (v5 : Value) (wr : World) : Prop :=
  ∃ st : List Tm.Fr, k = st.length ∧ wr.ownsRow w.heap.size 171 4 v5 st.length (flat st) ∧ st.length ≤ 400 ∧ Below w.heap.size w wr ∧ Fine at_ st ∧ Tm.run s.data.toList true st at_ depth = Tm.read s.data.toList

def Outer (w : World) (s : ByteArray) (k : Nat) (v5 v6 v7 : Value) (wr : World) : Prop :=
  ∃ (st : List Tm.Fr) (at_ depth : Nat), k + at_ = s.size ∧ v6 = .int .i64 at_ ∧ v7 = .int .i64 depth ∧ depth ≤ 400 ∧ wr.ownsRow w.heap.size 171 4 v5 st.length (flat st) ∧ st.length ≤ 400 ∧ Below w.heap.size w wr ∧ Fine at_ st ∧
    Tm.run s.data.toList false st at_ depth = Tm.read s.data.toList

theorem row_shape {w : World} {base : Nat} {e : TypeId} {size n : Nat} {v : Value} {xs : List Value} (h : w.ownsRow base e size v n xs) : ∃ A c, v = .slice A n c ∧ n ≤ c ∧ c ≤ maxLen := by
  rcases h.2 with ⟨rfl, rfl⟩ | ⟨g, cap, cur, rfl, _, _, h1, h2, _⟩
  · exact ⟨none, 0, rfl, Nat.le_refl _, Nat.zero_le _⟩
  · exact ⟨_, cap, rfl, h1, h2⟩

theorem push_cells (s : ByteArray) (at_ : Nat) (h : at_ < s.size) (a b : Nat) :
    [.int .u8 (s[at_].toNat : Int), .int .i64 (b : Int), .int .i64 ((at_ : Int) + (a : Int)), .string ⟨#[]⟩] = frCells ⟨s.data.toList.getD at_ 0, b, at_ + a, []⟩ := by
  unfold frCells
  rw [getD_bytes s at_ h]
  simp
theorem fine_push {at_ a b : Nat} {c : UInt8} {st : List Tm.Fr} (h : Fine at_ st) (hb : 0 < b) (hb2 : b ≤ 32) : Fine (at_ + a) (⟨c, b, at_ + a, []⟩ :: st) := by
  intro f hf
  rcases List.mem_cons.1 hf with rfl | hf
  · exact ⟨hb, hb2, Nat.le_refl _⟩
  · obtain ⟨h1, h2, h3⟩ := h f hf
    exact ⟨h1, h2, by omega⟩
theorem fine_took {p n : Nat} {c : UInt8} {x : List UInt8} {st : List Tm.Fr} (h : Fine p st) (hb : 0 < n - 1) (hb2 : n ≤ 32) : Fine p (⟨c, n - 1, p, x⟩ :: st) := by
  intro f hf
  rcases List.mem_cons.1 hf with rfl | hf
  · exact ⟨hb, by show n - 1 ≤ 32; omega, Nat.le_refl _⟩
  · exact h f hf
theorem fine_on {at_ a : Nat} {st : List Tm.Fr} (h : Fine at_ st) : Fine (at_ + a) st := fun f hf => by
  obtain ⟨h1, h2, h3⟩ := h f hf
  exact ⟨h1, h2, by omega⟩

theorem below_drewN {B : Nat} {a w : World} (h : Below B a w) (n : Nat) : Below B a (w.drewN n) := ⟨h.os, h.tape, h.output, h.size, h.block⟩

set_option maxRecDepth 100000 in
set_option maxHeartbeats 2000000 in
theorem read_calls (s : ByteArray) (hs : s.size ≤ maxLen) (w : World) :
    Calls Try.prog 85 #[.string s] w (Three w (Tm.read s.data.toList)) := by
  have hs' := hs
  unfold maxLen at hs
  obtain ⟨i0, hi, hz0, hz1, hz2⟩ := info_parts info_frame
  obtain ⟨w1, hmk, hown0, hg0⟩ := run_make_own (P := Try.prog) (w := w) w.heap.size 167 171 i0 (.agg #[.int .u8 0, .int .i64 0, .int .i64 0, .string ⟨#[]⟩]) 4 Try.underlying167 hi hz0 hz1 .i64 .i64 16 (by rw [hz2]; omega) (by unfold maxLen; omega) (Nat.le_refl _)
  have hmk' : (Instr.makeSlice 167 (.int .i64 0) (.int .i64 16)).run Try.prog w = .ok (.slice (some ⟨w.heap.size, 0, none⟩) 0 16) w1 := hmk
  clear hmk
  go_enter Try.func85, Try.ntmps85
  go_wp2
  go_step3
  go_wp2
  go_step3
  go_wp2
  clear hmk'
  go_loopg [5, 6, 7] s.size (fun k v5 v6 v7 wr => Outer w s k v5 v6 v7 wr)
  case atStart => exact ⟨[], 0, 0, by omega, rfl, rfl, by omega, hown0, by simp, (Below.refl _ _).grown hg0 (Nat.le_refl _) (by simp), by simp [Fine], rfl⟩
  case round =>
    clear hown0 hg0
    obtain ⟨st, at_, depth, hk, rfl, rfl, hd, hrow, hst, hbel, hfine, hrun⟩ := hrel
    obtain ⟨A, c, rfl, hnc, hcm⟩ := row_shape hrow
    have hat : at_ ≤ s.size := by omega
    have hex := extract_drop s at_
    have cK := inKey_calls st w.heap.size _ wr hrow hst
    have cE := fun W => beginsElement_calls (s.extract at_ s.size) W
    have cB := fun W => begin_calls (s.extract at_ s.size) (by simp [maxLen]; omega) W
    rw [hex] at cE cB
    obtain ⟨kv, hkv⟩ : ∃ b, Tm.inKey st = b := ⟨_, rfl⟩
    obtain ⟨ev, hev⟩ : ∃ b, Tm.element (s.data.toList.drop at_) = b := ⟨_, rfl⟩
    obtain ⟨⟨a, b⟩, hab⟩ : ∃ b, Tm.begin_ (s.data.toList.drop at_) = b := ⟨_, rfl⟩
    have hable := Tm.begin_le (s.data.toList.drop at_)
    rw [hkv] at cK
    rw [hev] at cE
    rw [hab] at cB hable
    simp only [List.length_drop, len_bytes] at hable
    have HK := Lib.hid cK
    have HE := Lib.hid cE
    have HB := Lib.hid cB
    have HX : Hid (Tm.inKey st = kv ∧ Tm.element (s.data.toList.drop at_) = ev ∧ Tm.begin_ (s.data.toList.drop at_) = (a, b) ∧ Tm.run s.data.toList false st at_ depth = Tm.read s.data.toList) := ⟨hkv, hev, hab, hrun⟩
    have HF := Lib.hid hfine
    have HR := Lib.hid hrow
    clear cK cE cB hkv hev hab hrun hfine hrow hex
    have i1 : (0 : Int) ≤ (at_ : Int) := by omega
    have i2 : (at_ : Int) ≤ (s.size : Int) := by omega
    by_cases hkey : kv = true ∧ ev = false
    · obtain ⟨rfl, rfl⟩ := hkey
      have hfin := Lib.hid (HX.out.2.2.2.symm.trans (Tm.run_key HX.out.1 HX.out.2.1))
      go_wp2_with (first
        | (go_at_call 98; refine HK.out.mono ?_; rintro e' w' ⟨rfl, rfl⟩)
        | (go_at_call 99; refine (HE.out _).mono ?_; rintro e' w' ⟨rfl, rfl⟩))
      try rw [Exit.noGoto_ret]
      go_ret3
      exact ⟨by rw [hfin.out]; rfl, hbel⟩
    have hnk : ¬ (Tm.inKey st = true ∧ Tm.element (s.data.toList.drop at_) = false) := by rw [HX.out.1, HX.out.2.1]; exact hkey
    have HN := Lib.hid hnk
    have hke : Hid (kv = false ∨ (kv = true ∧ ev = true)) := by
      show kv = false ∨ (kv = true ∧ ev = true)
      cases kv <;> cases ev <;> simp_all
    clear hnk hkey
    by_cases hdeep : st.length = 400
    · have hfin := Lib.hid (HX.out.2.2.2.symm.trans (Tm.run_deep HN.out hdeep))
      have hd4 : ((st.length : Int) == 400) = true := by simp; omega
      clear hdeep
      rcases hke.out with rfl | ⟨rfl, rfl⟩
      all_goals
        clear hke
        go_wp2_with (first
          | (go_at_call 98; refine HK.out.mono ?_; rintro e' w' ⟨rfl, rfl⟩)
          | (go_at_call 99; refine (HE.out _).mono ?_; rintro e' w' ⟨rfl, rfl⟩))
        try rw [Exit.noGoto_ret]
        go_ret3
        exact ⟨by rw [hfin.out]; rfl, hbel⟩
    have hd4 : ((st.length : Int) == 400) = false := by simp; omega
    by_cases ha : a = 0
    · subst ha
      have hfin := Lib.hid (HX.out.2.2.2.symm.trans (Tm.run_none HN.out hdeep (by rw [HX.out.2.2.1])))
      clear hdeep
      rcases hke.out with rfl | ⟨rfl, rfl⟩
      all_goals
        clear hke
        go_wp2_with (first
          | (go_at_call 98; refine HK.out.mono ?_; rintro e' w' ⟨rfl, rfl⟩)
          | (go_at_call 99; refine (HE.out _).mono ?_; rintro e' w' ⟨rfl, rfl⟩)
          | (go_at_call 100; refine (HB.out _).mono ?_; rintro e' w' ⟨rfl, nq, rfl⟩))
        try rw [Exit.noGoto_ret]
        go_ret3
        exact ⟨by rw [hfin.out]; rfl, below_drewN hbel _⟩
    have ha0 : ((a : Int) == 0) = false := by simp; omega
    have i3 : (at_ : Int) < (s.size : Int) := by omega
    have i4 : at_ < s.size := by omega
    have hst4 : st.length < 400 := by omega
    have hda := Lib.hid hdeep
    have haa := Lib.hid ha
    clear hdeep ha
    have hbs : wr.heap.size = (wr.drewN 0).heap.size := rfl
    have hwl : w.heap.size ≤ wr.heap.size := hbel.size
    by_cases hb : 0 < b
    · have hb' : (0 : Int) < (b : Int) := by omega
      rcases hke.out with rfl | ⟨rfl, rfl⟩
      all_goals
        clear hke
        go_wp2_with (first
          | (go_at_call 98; refine HK.out.mono ?_; rintro e' w' ⟨rfl, rfl⟩)
          | (go_at_call 99; refine (HE.out _).mono ?_; rintro e' w' ⟨rfl, rfl⟩)
          | (go_at_call 100; refine (HB.out _).mono ?_; rintro e' w' ⟨rfl, nq, rfl⟩)
          | (at_builtin
             refine wpList_append_own _ rfl _ _ 167 rfl w.heap.size 171 i0 (.agg #[.int .u8 0, .int .i64 0, .int .i64 0, .string ⟨#[]⟩]) 4 40 Try.underlying167 hi hz0 hz1 hz2 rfl (by decide) _ st.length (flat st) rfl (World.ownsRow.alloc (w := wr.drewN nq) HR.out _) ⟨wr.heap.size, 0, none⟩ 1 1 [.int .u8 (s[at_].toNat : Int), .int .i64 (b : Int), .int .i64 ((at_ : Int) + (a : Int)), .string ⟨#[]⟩] rfl rfl (World.news_of_block (cs := #[.int .u8 (s[at_].toNat : Int), .int .i64 (b : Int), .int .i64 ((at_ : Int) + (a : Int)), .string ⟨#[]⟩]) (heap_alloc_new _ _)) (fun x hx => by simp at hx; rcases hx with rfl | rfl | rfl | rfl <;> rfl) (by unfold maxLen; omega) (by omega) (by simp; omega) ?_
             intro v' w3 hown' hgrow3 hnil3
             have X : Hid (w3.ownsRow w.heap.size 171 4 v' (st.length + 1) (flat st ++ [.int .u8 (s[at_].toNat : Int), .int .i64 (b : Int), .int .i64 ((at_ : Int) + (a : Int)), .string ⟨#[]⟩]) ∧ Below w.heap.size w w3) :=
               ⟨hown', Below.grown ((below_drewN hbel nq).alloc (by simp; omega) _) hgrow3 (by simp; omega) (fun j hj => by have := (World.ownsRow.lt HR.out _ hj).1; omega)⟩
             clear hown' hgrow3 hnil3))
        all_goals
          go_roundg (gk - a)
          case measure => have := haa.out; omega
          case rel =>
            refine ⟨⟨s.data.toList.getD at_ 0, b, at_ + a, []⟩ :: st, at_ + a, max depth (st.length + 1), by omega, congrArg (Value.int .i64) (by omega), congrArg (Value.int .i64) (by omega), by omega, ?_, by simp; omega, X.out.2, ?_, ?_⟩
            · have h := X.out.1
              rw [push_cells s at_ i4 a b] at h
              exact h
            · exact fine_push HF.out hb hable.2
            · rw [← HX.out.2.2.2]
              exact (Tm.run_push HN.out hda.out HX.out.2.2.1 haa.out hb).symm
    · have hb0 : b = 0 := by omega
      subst hb0
      rcases hke.out with rfl | ⟨rfl, rfl⟩
      all_goals
        clear hke
        go_wp2_with (first
          | (go_at_call 98; refine HK.out.mono ?_; rintro e' w' ⟨rfl, rfl⟩)
          | (go_at_call 99; refine (HE.out _).mono ?_; rintro e' w' ⟨rfl, rfl⟩)
          | (go_at_call 100; refine (HB.out _).mono ?_; rintro e' w' ⟨rfl, nq, rfl⟩))
        all_goals
          obtain ⟨D, hD⟩ : ∃ D, D = max depth (st.length + 1) := ⟨_, rfl⟩
          obtain ⟨p, hp⟩ : ∃ p, p = at_ + a := ⟨_, rfl⟩
          have hps : p ≤ s.size := by omega
          have hD4 : D ≤ 400 := by omega
          have hpa : at_ < p := by have := haa.out; omega
          first
            | rw [show ((st.length : Int) + 1) = (D : Int) from by omega]
            | rw [show (depth : Int) = (D : Int) from by omega]
          rw [show ((at_ : Int) + (a : Int)) = (p : Int) from by omega]
          have H0 : Hid (Inner w s p D st.length (.slice A st.length c) (wr.drewN nq)) := by
            refine ⟨st, rfl, HR.out, hst, below_drewN hbel nq, hp ▸ fine_on HF.out, ?_⟩
            rw [← HX.out.2.2.2, Tm.run_leaf HN.out hda.out HX.out.2.2.1 haa.out (by omega), hD, hp]
          clear hD hp HX HN HF HR HK HE HB
          go_loopg [5] st.length (fun k v5 wr => Inner w s p D k v5 wr)
          case atStart => exact H0.out
          case round =>
            clear H0
            obtain ⟨st2, hk2, hrow2, hst2, hbel2, hfine2, hrun2⟩ := hrel
            cases st2 with
            | nil =>
              obtain ⟨A2, c2, rfl, hnc2, hcm2⟩ := row_shape hrow2
              have HR2 := Lib.hid hrun2
              clear hrun2 hrow2 hfine2 hk2
              simp only [List.length_nil]
              go_wp2
              try rw [Exit.noGoto_ret]
              go_ret3
              exact ⟨by rw [← HR2.out, Tm.run_end]; rfl, hbel2⟩
            | cons f rest =>
              rcases hrow2.2 with ⟨_, hn0⟩ | ⟨g, cap, cur, rfl, hwg, _, hncap, hcapm, _, _⟩
              · simp at hn0
              simp only [List.length_cons] at hrow2 hncap hst2 hk2 ⊢
              obtain ⟨hl0, hl1, hl2⟩ := hfine2 f (by simp)
              have hf3 : Fine p rest := fun f' hf' => hfine2 f' (by simp [hf'])
              have HF2 := Lib.hid hf3
              have HR2 := Lib.hid hrun2
              have HO2 := Lib.hid hrow2
              have c24 : Try.prog.cellsOf 171 = 4 := by kernel_rfl
              have hwr : IntKind.i64.wrap (rest.length : Int) = (rest.length : Int) := by rw [IntKind.wrap_i64]; omega
              have hix1 : (rest.length : Int) < (rest.length : Int) + 1 := by omega
              have hix3 : rest.length < rest.length + 1 := by omega
              have hix0 : (0 : Int) ≤ (rest.length : Int) := by omega
              have hg0 : (((rest.length : Int) + 1) == 0) = false := by simp; omega
              clear hfine2 hf3 hrun2 hrow2
              unfold maxLen at hcapm
              by_cases hls : f.kind = 101 ∧ Tm.less ((s.data.toList.drop f.frm).take (p - f.frm)) f.ahead = true
              · have HL := Lib.hid hls
                clear hls
                go_wp2_with (go_at_call 101; refine (took_row_no w.heap.size g cap f rest s p _ hl2 hps HO2.out HL.out).mono ?_; rintro e' w' ⟨rfl, rfl⟩)
                try rw [Exit.noGoto_ret]
                go_ret3
                exact ⟨by rw [← HR2.out, Tm.run_less HL.out]; rfl, hbel2⟩
              · have HL := Lib.hid hls
                clear hls
                by_cases hm : 0 < f.left - 1
                · have hm' : (0 : Int) < ((f.left - 1 : Nat) : Int) := by omega
                  go_wp2_with (
                    go_at_call 101
                    refine (took_row w.heap.size g cap f rest s p _ hl2 hps hl1 hl0 HO2.out HL.out).mono ?_
                    rintro e' w3 ⟨rfl, hown3, hgrow3⟩
                    have ct1 : w3.cell? ⟨g, rest.length * 4 + 1, none⟩ = some (.int .i64 ((f.left - 1 : Nat) : Int)) := (hown3.cellAt (rest.length * 4 + 1) (by omega)).trans (flat_top _ rest 1 (by omega))
                    have X : Hid (w3.ownsRow w.heap.size 171 4 (.slice (some ⟨g, 0, none⟩) (rest.length + 1) cap) (rest.length + 1) (flat (⟨f.kind, f.left - 1, p, (s.data.toList.drop f.frm).take (p - f.frm)⟩ :: rest)) ∧ Below w.heap.size w w3) :=
                      ⟨hown3, Below.grown hbel2 hgrow3 hbel2.size (fun j hj => by cases hj; exact hwg)⟩
                    clear hown3 hgrow3)
                  go_roundg (s.size - p)
                  case measure => omega
                  case rel =>
                    refine ⟨_, p, D, by omega, rfl, rfl, hD4, X.out.1, by simp; omega, X.out.2, ?_, ?_⟩
                    · exact fine_took HF2.out hm hl1
                    · rw [← HR2.out]
                      exact (Tm.run_more HL.out hm).symm
                · have hm1 : f.left = 1 := by omega
                  go_wp2_with (
                    go_at_call 101
                    refine (took_row w.heap.size g cap f rest s p _ hl2 hps hl1 hl0 HO2.out HL.out).mono ?_
                    rintro e' w3 ⟨rfl, hown3, hgrow3⟩
                    have ct1 : w3.cell? ⟨g, rest.length * 4 + 1, none⟩ = some (.int .i64 0) := by
                      rw [(hown3.cellAt (rest.length * 4 + 1) (by omega)).trans (flat_top _ rest 1 (by omega))]
                      simp [frCells, hm1]
                    have X : Hid (w3.ownsRow w.heap.size 171 4 (.slice (some ⟨g, 0, none⟩) rest.length cap) rest.length (flat rest) ∧ Below w.heap.size w w3) :=
                      ⟨ownsRow_pop hown3, Below.grown hbel2 hgrow3 hbel2.size (fun j hj => by cases hj; exact hwg)⟩
                    clear hown3 hgrow3)
                  go_roundg rest.length
                  case measure => omega
                  case rel =>
                    refine ⟨rest, rfl, X.out.1, by omega, X.out.2, HF2.out, ?_⟩
                    rw [← HR2.out]
                    exact (Tm.run_pop HL.out hm).symm

end Go.Proofs.Ytckmpbmlneionaa
