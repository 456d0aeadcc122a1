/- Plain mathematics: tokens with any text behind them: just these words are cut off it. -/
import Derived.Test.YtkhjahpkbjafaaaGreatDoorTMathEscC
namespace Go.Proofs.YtkhjahpkbjafaaaGreatDoor
open Go.RowKit

/-- a token as it may stand, with this text behind it -/
def Tk.ok (R : List UInt8) : Tk → Prop
  | .bl b => ∀ x ∈ b, blB x = true
  | .sg c => sgnB c = true
  | .st s => Vl s ∧ s.length ≤ 4096
  | .nu s => numB s = true ∧ ∀ x, R.head? = some x → numC x = false
  | .li s => litB s = true ∧ ∀ x, R.head? = some x → lowC x = false
def okR (R : List UInt8) : List Tk → Prop
  | [] => True
  | t :: r => t.ok (txs r ++ R) ∧ okR R r
theorem okR_app {R : List UInt8} : ∀ (a b : List Tk), okR R (a ++ b) ↔ okR (txs b ++ R) a ∧ okR R b
  | [], b => by simp [okR]
  | t :: r, b => by rw [List.cons_append, okR, okR, okR_app r b, txs_app, List.append_assoc, and_assoc]
/-- what a token that is no blank is cut to -/
theorem tok_lw (t : Tk) (M R : List UInt8) (h : t.ok R) (hb : ∀ b, t ≠ .bl b) : ∃ (b : UInt8) (kd : Nat) (tx : List UInt8), (M ++ (t.tx ++ R))[M.length]? = some b ∧ blB b = false ∧ lw (M ++ (t.tx ++ R)) M.length = ⟨kd, tx, M.length + t.tx.length, 0, 0⟩ ∧ t.wd M.length = [⟨kd, tx, M.length⟩] := by
  cases t with
  | bl b => exact absurd rfl (hb b)
  | sg c =>
    have h1 : sgnB c = true := h
    have hb := get_mid M c R
    have hbl : blB c = false := by
      unfold sgnB at h1; have := of_decide_eq_true h1
      unfold blB; exact decide_eq_false (by omega)
    exact ⟨c, 1, [c], hb, hbl, lw_sg hb hbl h1, rfl⟩
  | st s =>
    obtain ⟨h1, h3⟩ := h
    obtain ⟨q, hq⟩ : ∃ q, qtA false s = 34 :: q := ⟨_, rfl⟩
    have hb : (M ++ (qtA false s ++ R))[M.length]? = some 34 := by rw [hq]; exact get_mid M 34 _
    have hrd := rd_whole false s M R h1.vld
    rw [List.append_assoc] at hrd
    have hu : unqJ (M ++ (qtA false s ++ R)) (M.length : Nat) = (s, M.length + (qtA false s).length, -1) := by
      unfold unqJ
      rw [if_pos ⟨by omega, by rw [Int.toNat_natCast]; exact bt_some hb⟩, Int.toNat_natCast]
      exact hrd
    have hl : lw (M ++ (qtA false s ++ R)) M.length = ⟨2, s, M.length + (qtA false s).length, 0, 0⟩ := by
      rw [lw_qt hb (by decide) (by decide) (by decide)]
      unfold lwS
      rw [hu, if_neg (by simp), if_neg (by simp only; omega)]
    exact ⟨34, 2, s, hb, by decide, hl, rfl⟩
  | nu s =>
    obtain ⟨h1, h3⟩ := h
    have hN := h1
    unfold numB at hN
    rw [Bool.and_eq_true, Bool.and_eq_true, decide_eq_true_eq] at hN
    obtain ⟨⟨hp, hw⟩, hlen⟩ := hN
    obtain ⟨hall, s0, S', hS, h0⟩ := num_bytes hp
    have hb : (M ++ (s ++ R))[M.length]? = some s0 := by rw [hS]; exact get_mid M s0 _
    have hbl : blB s0 = false := by
      unfold numS at h0; have := of_decide_eq_true h0
      unfold blB; exact decide_eq_false (by omega)
    have hsg : sgnB s0 = false := by
      unfold numS at h0; have := of_decide_eq_true h0
      unfold sgnB; exact decide_eq_false (by omega)
    have hq : s0.toNat ≠ 34 := by unfold numS at h0; have := of_decide_eq_true h0; omega
    have hr : run numC ((M ++ (s ++ R)).drop M.length) = s.length := by rw [drop_mid]; exact run_stop hall h3
    have hP : ((M ++ (s ++ R)).drop M.length).take s.length = s := by rw [drop_mid]; exact List.take_left
    have hl : lw (M ++ (s ++ R)) M.length = ⟨3, s, M.length + s.length, 0, 0⟩ := by
      rw [lw_nm hb hbl hsg hq h0]
      unfold lwN
      rw [hr, hP, if_neg (by omega), if_neg (by rw [hp]; decide), if_neg (by rw [hw]; decide)]
    exact ⟨s0, 3, s, hb, hbl, hl, rfl⟩
  | li s =>
    obtain ⟨h1, h3⟩ := h
    obtain ⟨⟨s0, S', hS, hbl, hsg, hq, h0⟩, hall⟩ := lit_head h1
    have hb : (M ++ (s ++ R))[M.length]? = some s0 := by rw [hS]; exact get_mid M s0 _
    have hr : run lowC ((M ++ (s ++ R)).drop M.length) = s.length := by rw [drop_mid]; exact run_stop hall h3
    have hP : ((M ++ (s ++ R)).drop M.length).take s.length = s := by rw [drop_mid]; exact List.take_left
    have hl : lw (M ++ (s ++ R)) M.length = ⟨4, s, M.length + s.length, 0, 0⟩ := by
      rw [lw_lt hb hbl hsg hq h0]
      unfold lwL
      rw [hr, hP, if_pos h1]
    exact ⟨s0, 4, s, hb, hbl, hl, rfl⟩
/-- signs that open, less those that shut -/
def bal : List Wd → Int
  | [] => 0
  | x :: r => (if x.kd = 1 then (if x.tx = [91] ∨ x.tx = [123] then 1 else if x.tx = [93] ∨ x.tx = [125] then -1 else 0) else 0) + bal r
end Go.Proofs.YtkhjahpkbjafaaaGreatDoor
