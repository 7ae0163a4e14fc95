/- One act at the program's queue, and the same at the document's: one answer, and both go on alike. -/
import Derived.Test.YtonidhpjecohlaaQPlay
namespace Go.Proofs.Ytonidhpjecohlaa.L6
open Go.ChangeShapes Go.WideShapes Go.ChangeAt Go.RowKit L5

structure PlayEx (w0 : World) (B ga ca rm gb cb rm' hx hy : Nat) (W : World) : Prop where
  ex : ∃ vx vy la lb, PlayAt w0 B ga ca rm gb cb rm' hx hy W vx vy la lb
theorem PlayEx.swap {w0 : World} {B ga ca rm gb cb rm' hx hy : Nat} {W : World} (h : PlayEx w0 B ga ca rm gb cb rm' hx hy W) : PlayEx w0 B gb cb rm' ga ca rm hy hx W := by
  obtain ⟨vx, vy, la, lb, p⟩ := h.ex
  exact ⟨vy, vx, lb, la, p.swap⟩

variable {w0 : World} {B ga ca rm gb cb rm' hx hy : Nat} {W : World} {vx vy : Value} {la lb : List ByteArray}

theorem push_both (p : PlayAt w0 B ga ca rm gb cb rm' hx hy W vx vy la lb) (x : ByteArray) :
    ∃ k : Int, Calls Try.prog 11 #[.pointer (some ⟨ga, 0, none⟩), .string x] W fun e W1 => e = .returned (.int .i64 k) ∧ Hid (Calls Try.prog 12 #[.pointer (some ⟨hx, 0, none⟩), .string x] W1 fun e' W2 => e' = .returned (.int .i64 k) ∧ Hid (PlayEx w0 B ga ca rm gb cb rm' hx hy W2)) := by
  by_cases h : la.length < rm
  · refine ⟨0, (Push_room p.two.one h x).mono ?_⟩
    rintro e W1 ⟨rfl, q1, g1⟩
    have t := Turn.oneA p q1 g1
    obtain ⟨mx, my⟩ := p.mid t
    refine ⟨rfl, (RPush_room mx (Nat.le_trans p.base t.size) h p.rm.1 x).mono ?_⟩
    rintro e' W2 ⟨rfl, v', r, m, hb⟩
    exact ⟨rfl, _, _, _, _, p.turnA t r m hb (by simp; omega)⟩
  · have hl : la.length = rm := by have := p.la; omega
    refine ⟨5, (Push_full p.two.one (by omega) x).mono ?_⟩
    rintro e W1 ⟨rfl, rfl⟩
    refine ⟨rfl, (RPush_full p.x hl p.rm.1 x).mono ?_⟩
    rintro e' W2 ⟨rfl, m, rfl⟩
    exact ⟨rfl, _, _, _, _, p.drewN m⟩
theorem pop_both (p : PlayAt w0 B ga ca rm gb cb rm' hx hy W vx vy la lb) :
    ∃ (s : ByteArray) (k : Bool), Calls Try.prog 13 #[.pointer (some ⟨ga, 0, none⟩)] W fun e W1 => e = .returned (.tuple #[.string s, .bool k]) ∧ Hid (Calls Try.prog 14 #[.pointer (some ⟨hx, 0, none⟩)] W1 fun e' W2 => e' = .returned (.tuple #[.string s, .bool k]) ∧ Hid (PlayEx w0 B ga ca rm gb cb rm' hx hy W2)) := by
  cases la with
  | nil =>
    refine ⟨⟨#[]⟩, false, (Pop_none p.two.one).mono ?_⟩
    rintro e W1 ⟨rfl, rfl⟩
    refine ⟨rfl, (RPop_none p.x).mono ?_⟩
    rintro e' W2 ⟨rfl, rfl⟩
    exact ⟨rfl, _, _, _, _, p⟩
  | cons y la =>
    have hl := p.la
    have hrm := p.rm.1
    simp only [List.length_cons] at hl
    refine ⟨y, true, (Pop_some p.two.one).mono ?_⟩
    rintro e W1 ⟨rfl, q1, g1⟩
    have t := Turn.oneA p q1 g1
    obtain ⟨mx, my⟩ := p.mid t
    refine ⟨rfl, (RPop_some mx (by omega)).mono ?_⟩
    rintro e' W2 ⟨rfl, v', r, m, hb⟩
    exact ⟨rfl, _, _, _, _, p.turnA t r m hb (by omega)⟩
theorem either_both (p : PlayAt w0 B ga ca rm gb cb rm' hx hy W vx vy la lb) :
    ∃ (s : ByteArray) (k : Int), Calls Try.prog 15 #[.pointer (some ⟨ga, 0, none⟩), .pointer (some ⟨gb, 0, none⟩)] W fun e W1 => e = .returned (.tuple #[.string s, .int .i64 k]) ∧ Hid (Calls Try.prog 16 #[.pointer (some ⟨hx, 0, none⟩), .pointer (some ⟨hy, 0, none⟩)] W1 fun e' W2 => e' = .returned (.tuple #[.string s, .int .i64 k]) ∧ Hid (PlayEx w0 B ga ca rm gb cb rm' hx hy W2)) := by
  have hla := p.la
  have hlb := p.lb
  have hrm := p.rm
  have hlow := p.low
  cases la with
  | cons y la =>
    simp only [List.length_cons] at hla
    refine ⟨y, 1, (Either_one p.two (B := w0.heap.size) hlow.1 hlow.2.1).mono ?_⟩
    rintro e W1 ⟨rfl, h1, h2, h3, h4⟩
    have t : Turn w0 ga ca rm gb cb rm' W W1 la lb := ⟨h1, h2 _ p.bel, h3, h4⟩
    obtain ⟨mx, my⟩ := p.mid t
    refine ⟨rfl, (REither_one mx (by omega)).mono ?_⟩
    rintro e' W2 ⟨rfl, v', r, m, hb⟩
    exact ⟨rfl, _, _, _, _, p.turnA t r m hb (by omega)⟩
  | nil =>
    cases lb with
    | cons y lb =>
      simp only [List.length_cons] at hlb
      refine ⟨y, 2, (Either_two p.two (B := w0.heap.size) hlow.1 hlow.2.1).mono ?_⟩
      rintro e W1 ⟨rfl, h1, h2, h3, h4⟩
      have t : Turn w0 ga ca rm gb cb rm' W W1 [] lb := ⟨h1, h2 _ p.bel, h3, h4⟩
      obtain ⟨mx, my⟩ := p.mid t
      refine ⟨rfl, (REither_two mx my (by omega)).mono ?_⟩
      rintro e' W2 ⟨rfl, v', r, m, hb⟩
      exact ⟨rfl, _, _, _, _, (p.swap.turnA t.swap r m hb (by omega)).swap⟩
    | nil =>
      refine ⟨⟨#[]⟩, 0, (Either_none p.two (B := w0.heap.size) hlow.1 hlow.2.1).mono ?_⟩
      rintro e W1 ⟨rfl, h1, h2, h3, h4⟩
      have t : Turn w0 ga ca rm gb cb rm' W W1 [] [] := ⟨h1, h2 _ p.bel, h3, h4⟩
      obtain ⟨mx, my⟩ := p.mid t
      refine ⟨rfl, (REither_none mx my).mono ?_⟩
      rintro e' W2 ⟨rfl, rfl⟩
      exact ⟨rfl, _, _, _, _, p.still t⟩

/-- Rest and Len at queues that are told so. -/
theorem rest_play (p : PlayAt w0 B ga ca rm gb cb rm' hx hy W vx vy la lb) : Calls Try.prog 19 #[.pointer (some ⟨ga, 0, none⟩)] W fun e W1 => ∃ v, e = .returned v ∧ SRow W1 v la ∧ PlayAt w0 B ga ca rm gb cb rm' hx hy W1 vx vy la lb := by
  refine (Rest_calls p.two.one p.la p.rm.1).mono ?_
  rintro e W1 ⟨v, rfl, r, q, g⟩
  exact ⟨v, rfl, SRow.of_own r, p.still (Turn.oneA p q g)⟩
theorem tail_srow {B' : Nat} {e : TypeId} {zs : List ByteArray} {v : Value} (h : Tail W B' e v (strV zs)) : SRow W v zs := by
  obtain ⟨A, c, rfl⟩ := h.slice
  rw [strV_length] at h ⊢
  refine ⟨A, c, rfl, fun j x hx => ?_⟩
  obtain ⟨ad, n, c', e1, _, h2, h3, _⟩ := h.cellAt (j := j) (u := .string x) (by simp [strV, hx])
  cases e1
  exact ⟨ad, rfl, h2, h3⟩
theorem same_play (p : PlayAt w0 B ga ca rm gb cb rm' hx hy W vx vy la lb) {v : Value} (h : SRow W v la) : Calls Try.prog 18 #[v, vx] W fun e W1 => e = .returned (.bool true) ∧ PlayAt w0 B ga ca rm gb cb rm' hx hy W1 vx vy la lb := by
  have h1 := p.la
  have h2 := p.rm
  refine (same_calls la v vx W h (tail_srow p.x.tail) (by omega)).mono ?_
  rintro e W1 ⟨rfl, m, rfl⟩
  exact ⟨rfl, p.drewN m⟩

end Go.Proofs.Ytonidhpjecohlaa.L6
